/-
 Contract of hagioscoperef10's Name over this seat's translation: it answers what nameS says.
-/
import Derived.Test.YthfknndjdfofgaaGreatDoorQ09
import Derived.Test.YthfknndjdfofgaaGreatDoorQ22
import Derived.Test.YthfknndjdfofgaaGreatDoorQ29
import Derived.Test.YthfknndjdfofgaaGreatDoorQ10
namespace Go.Proofs.YthfknndjdfofgaaGreatDoor.Ex
open Go.RowKit Go.Proofs.YthfknndjdfofgaaGreatDoor.Wd Go.Proofs.YthfknndjdfofgaaGreatDoor.Be Go.Proofs.YthfknndjdfofgaaGreatDoor.He Go.Proofs.YthfknndjdfofgaaGreatDoor.Ro

theorem Sq.cap {w : World} {v : Value} {xs : List UInt8} (h : Sq w v xs) : ∃ A c, v = .slice A xs.length c ∧ xs.length ≤ c ∧ c ≤ 9223372036854775807 ∧ Src w A xs.length xs := by
 obtain ⟨A, c, rfl, h1, h2⟩ := h.src
 refine ⟨A, c, rfl, h1, ?_, h2⟩
 obtain ⟨_, ⟨h0, _⟩ | ⟨g, cap, cur, hv, _, _, _, hm, _⟩⟩ := h
 · injection h0 with _ _ h3; omega
 · injection hv with _ _ h3
   unfold maxLen at hm
   omega

theorem drewN_below (w : World) (k : Nat) : Below w.heap.size w (w.drewN k) := ((But.refl [] w).drewN k).below (by simp) (Nat.le_refl _)
theorem read_bad {α : Type} {one : Option (List UInt8) → α × Option (List UInt8)} {size : Int} {b : List UInt8} (h : doneS (vecS (some b) size).2 = false) : (readS one size b).2 = false := by
 show (doneS (vecS (some b) size).2 && _ && _) = false
 rw [h]; rfl
theorem read_empty {α : Type} {one : Option (List UInt8) → α × Option (List UInt8)} {size : Int} {b : List UInt8} (h : (vecS (some b) size).1 = []) : (readS one size b).2 = false := by
 show (doneS (vecS (some b) size).2 && _ && decide (0 < (itemsS one (vecS (some b) size).1).1.length)) = false
 have e : (itemsS one ([] : List UInt8)).1 = [] := rfl
 rw [h, e]
 simp
theorem read_off {α : Type} {one : Option (List UInt8) → α × Option (List UInt8)} {size : Int} {b : List UInt8} (h : (itemsS one (vecS (some b) size).1).2 = false) : (readS one size b).2 = false := by
 show (doneS (vecS (some b) size).2 && (itemsS one (vecS (some b) size).1).2 && _) = false
 rw [h]; simp
theorem read_ok {α : Type} {one : Option (List UInt8) → α × Option (List UInt8)} {size : Int} {b : List UInt8} {l : List α} (h1 : doneS (vecS (some b) size).2 = true) (h2 : itemsS one (vecS (some b) size).1 = (l, true)) (h3 : l ≠ []) : readS one size b = (l, true) := by
 show ((itemsS one (vecS (some b) size).1).1, doneS (vecS (some b) size).2 && (itemsS one (vecS (some b) size).1).2 && decide (0 < (itemsS one (vecS (some b) size).1).1.length)) = _
 rw [h1, h2]
 have : 0 < l.length := List.length_pos_iff.2 h3
 simp [this]
theorem name_form {b : List UInt8} (h : (readS typO 2 b).2 = false) : nameS b = ([], 3) := by rw [nameS, h]; rfl
theorem name_ok {b : List UInt8} {l : List (Int × List UInt8)} (h : readS typO 2 b = (l, true)) : nameS b = nameL (l.filter hostB) := by rw [nameS, h]; rfl
def lastN : List (Int × List UInt8) → List UInt8
 | [] => []
 | [x] => x.2
 | _ :: l => lastN l
theorem lastN_snoc (x : Int × List UInt8) : ∀ l, lastN (l ++ [x]) = x.2
 | [] => rfl
 | [_] => rfl
 | _ :: z :: l => lastN_snoc x (z :: l)

structure RnAt (B r : Nat) (w : World) (ys : List UInt8) (cnt : Int) (s : Value) (st : Option (List UInt8)) (wr : World) : Prop where
 rd : Rq B wr r st
 all : ∃ l f, leftS st < f ∧ itemsS typO ys = (l ++ (itemsF typO f st).1, (itemsF typO f st).2) ∧ cnt = (((l.filter hostB).length : Nat) : Int) ∧ s = .string (str8 (lastN (l.filter hostB))) ∧ (lastN (l.filter hostB)).length ≤ 65535 ∧ (l = [] → st = some ys) ∧ l.length + leftS st ≤ 65535
 some_ : ∃ rest, st = some rest
 bel : Below w.heap.size w wr
 far : w.heap.size ≤ r

def qlen (w : World) (r : Nat) : Nat := match w.cell? ⟨r, 0, none⟩, w.cell? ⟨r, 1, none⟩ with
 | some (.slice _ n _), some (.int _ a) => n - a.toNat
 | _, _ => 0
theorem Rq.qlen {B : Nat} {w : World} {r : Nat} {rest : List UInt8} (h : Rq B w r (some rest)) : Ex.qlen w r = rest.length := by
 obtain ⟨A, n, c, xs, ⟨a, off, hk, ha, e⟩, _, _, _, hs, _⟩ := h
 unfold Ex.qlen
 rw [hk.cell 0, hk.cell 1]
 cases off with
 | true => cases e
 | false =>
   injection e with e
   subst e
   have := hs.1
   simp [this]

set_option maxRecDepth 100000 in
set_option maxHeartbeats 2000000 in
theorem rname_any (A : Option Addr) (n c : Nat) (xs : List UInt8) (w : World) (hs : Src w A n xs) (hn : n ≤ 100000) (hnc : n ≤ c) (hc : c ≤ 9223372036854775807) :
   Calls Tryz.prog 84 #[.slice A n c] w fun e w' => e = .returned (.tuple #[.string (str8 (nameS xs).1), .int .i64 (nameS xs).2]) ∧ Below w.heap.size w w' := by
 have H0 := Lib.hid (Rq.new hs hn hnc hc rfl)
 have HB0 := Lib.hid ((Below.refl w.heap.size w).alloc (Nat.le_refl _) (.cells #[.slice A n c, .int .i64 0, .bool false] 160))
 have hsm := vec_small (some xs)
 clear hs
 go_enter Tryz.func84, Tryz.ntmps84
 go_wp2_with fail
 refine (qvec_any H0.out 2).mono ?_
 rintro e w1 ⟨v1, rfl, hv1, hr1, hg1⟩
 have HB1 := Lib.hid (HB0.out.grown hg1 HB0.out.size (fun j hj => by injection hj with hj; omega))
 obtain ⟨q, hq⟩ : ∃ q, vecS (some xs) 2 = q := ⟨_, rfl⟩
 have HQ := Lib.hid hq
 rw [hq] at hv1 hr1 hsm
 clear hq
 obtain ⟨ys, st1⟩ := q
 simp only at hv1 hr1 hsm
 obtain ⟨A2, c2, rfl, h2, h3, hs2⟩ := Sq.cap hv1
 have HL := Lib.hid (Rq.new hs2 (by omega) h2 h3 rfl)
 have HR1 := Lib.hid (hr1.below ((Below.refl w1.heap.size w1).alloc (Nat.le_refl _) (.cells #[.slice A2 ys.length c2, .int .i64 0, .bool false] 160)))
 have HB2 := Lib.hid (HB1.out.alloc HB1.out.size (.cells #[.slice A2 ys.length c2, .int .i64 0, .bool false] 160))
 have hsz1 := HB1.out.size
 clear hv1 hr1 hg1 hs2 H0 HB0 HB1
 have hoff := HR1.out.bad
 cases st1 with
 | none =>
   have hoff' : (w1.alloc (.cells #[.slice A2 ys.length c2, .int .i64 0, .bool false] 160)).cell? ⟨w.heap.size, 2, none⟩ = some (.bool true) := hoff
   have HF := Lib.hid (show nameS xs = ([], 3) from name_form (read_bad (by rw [HQ.out]; rfl)))
   clear hoff
   go_wp2_with fail
   go_ret2
   rw [HF.out]
   exact ⟨rfl, HB2.out⟩
 | some rest =>
   have hoff' : (w1.alloc (.cells #[.slice A2 ys.length c2, .int .i64 0, .bool false] 160)).cell? ⟨w.heap.size, 2, none⟩ = some (.bool false) := hoff
   clear hoff
   go_upto_region 3 with fail
   generalize w1.alloc (.cells #[.slice A2 ys.length c2, .int .i64 0, .bool false] 160) = w2 at *
   generalize w1.heap.size = y at *
   go_wp2_with fail
   refine (qleft_any HR1.out).mono ?_
   rintro e w3 ⟨rfl, k3, rfl⟩
   have hd3 := drewN_below w2 k3
   have HB3 := Lib.hid (HB2.out.trans (hd3.mono HB2.out.size))
   have HL3 := Lib.hid (HL.out.below hd3)
   clear HB2 HL HR1 hd3 hoff'
   generalize w2.drewN k3 = w3 at *
   by_cases hr0 : rest.length = 0
   · have hrest : rest = [] := List.eq_nil_of_length_eq_zero hr0
     subst hrest
     have HD := Lib.hid (show doneS (vecS (some xs) 2).2 = true by rw [HQ.out]; rfl)
     have HY := Lib.hid (show (vecS (some xs) 2).1 = ys by rw [HQ.out])
     clear hr0
     have hl0 : ((leftS (some []) : Nat) : Int) = 0 := rfl
     rw [hl0]
     go_wp2_with fail
     refine (qleft_any HL3.out).mono ?_
     rintro e w4 ⟨rfl, k4, rfl⟩
     have hd4 := drewN_below w3 k4
     have HB4 := Lib.hid (HB3.out.trans (hd4.mono HB3.out.size))
     have HL4 := Lib.hid (HL3.out.below hd4)
     clear HB3 HL3 hd4
     generalize w3.drewN k4 = w4 at *
     have hly : leftS (some ys) = ys.length := rfl
     rw [hly]
     by_cases hy0 : ys.length = 0
     · have hye : ys = [] := List.eq_nil_of_length_eq_zero hy0
       have HF := Lib.hid (show nameS xs = ([], 3) from name_form (read_empty (by rw [HY.out]; exact hye)))
       rw [hy0]
       go_wp2_with fail
       go_ret2
       rw [HF.out]
       exact ⟨rfl, HB4.out⟩
     · have hyb : ((ys.length : Int) == 0) = false := beq_eq_false_iff_ne.2 (by omega)
       have hfar := HL4.out.far
       have H0 : Hid (RnAt y y w ys 0 (.string (str8 [])) (some ys) w4) := Lib.hid ⟨HL4.out, ⟨[], ys.length + 1, by show ys.length < _; omega, rfl, rfl, rfl, Nat.zero_le _, fun _ => rfl, by show 0 + ys.length ≤ _; omega⟩, ⟨ys, rfl⟩, HB4.out, by omega⟩
       have Hne := Lib.hid (show ys ≠ [] from fun h => hy0 (by rw [h]; rfl))
       have hse : (Value.string (str8 [])) = .string ⟨#[]⟩ := rfl
       rw [hse] at H0
       obtain ⟨m, hm⟩ : ∃ m, ys.length = m := ⟨_, rfl⟩
       rw [hm] at hyb ⊢
       clear HB4 HL4 hy0 hly hm hfar hse
       go_wp2_with fail
       clear HQ
       go_loopw [6, 7] (fun a b wr => ∃ (cn : Int) (st : Option (List UInt8)), a = .int .i64 cn ∧ Hid (RnAt y y w ys cn b st wr)) (fun _ _ wr => qlen wr y)
       case atStart => exact ⟨0, some ys, rfl, H0⟩
       case round =>
         clear H0
         obtain ⟨cn, st, rfl, HN⟩ := hrel
         obtain ⟨rest, rfl⟩ := HN.out.some_
         go_wp2_with fail
         refine (qleft_any HN.out.rd).mono ?_
         rintro e w5 ⟨rfl, k5, rfl⟩
         have hd5 := drewN_below wr k5
         have HR5 := Lib.hid (HN.out.rd.below hd5)
         have HB5 := Lib.hid (HN.out.bel.trans (hd5.mono HN.out.bel.size))
         have hlr : leftS (some rest) = rest.length := rfl
         rw [hlr]
         have HQl := Lib.hid (Rq.qlen HN.out.rd)
         clear hd5
         generalize wr.drewN k5 = w5 at *
         by_cases h0 : 0 < rest.length
         · have h0i : (0 : Int) < (rest.length : Int) := by omega
           have HL0 := Lib.hid (show 0 < leftS (some rest) from h0)
           obtain ⟨q, hq⟩ : ∃ q, rest.length = q := ⟨_, rfl⟩
           rw [hq] at HQl h0i ⊢
           have HQ := Lib.hid hq
           clear hq hlr h0
           go_wp2_with fail
           refine (qnum_any HR5.out 1).mono ?_
           rintro e w6 ⟨rfl, hr6, hg6⟩
           have HR6 := Lib.hid hr6
           have HB6 := Lib.hid (HB5.out.grown hg6 HB5.out.size (fun j hj => by injection hj with hj; have := HN.out.far; omega))
           clear hr6 hg6 HR5 HB5
           have HK := Lib.hid (show leftS (typO (some rest)).2 < q by have := typO_less _ HL0.out; have := HQ.out; show _ < q; rw [← this]; assumption)
           have hvs := vec_small (numS (some rest) 1).2
           obtain ⟨l, f, hf, hall, hcn, hs, hln, hne, hlen⟩ := HN.out.all
           subst hs
           obtain ⟨f', rfl⟩ : ∃ f', f = f' + 1 := ⟨f - 1, by omega⟩
           have HA : Hid (itemsS typO ys = ((l ++ [(typO (some rest)).1]) ++ (itemsF typO f' (typO (some rest)).2).1, (itemsF typO f' (typO (some rest)).2).2)) := by
             rw [hall, itemsF_step HL0.out, List.append_assoc]; rfl
           have HT := Lib.hid (show typO (some rest) = ((((numS (some rest) 1).1 : Int), (vecS (numS (some rest) 1).2 2).1), (vecS (numS (some rest) 1).2 2).2) from rfl)
           have HCn := Lib.hid hcn
           have HLn := Lib.hid hln
           have HLe := Lib.hid hlen
           have HFf := Lib.hid hf
           have hsz6 := HB6.out.size
           have hfar := HN.out.far
           clear hall hcn hln hlen hf hne HN HL0
           generalize numS (some rest) 1 = p at *
           go_wp2_with fail
           refine (qvec_any HR6.out 2).mono ?_
           rintro e w7 ⟨v7, rfl, hv7, hr7, hg7⟩
           generalize vecS p.2 2 = z at *
           obtain ⟨x, st'⟩ := z
           simp only at hv7 hr7 hvs HT
           obtain ⟨A7, c7, rfl, _, _, hs7⟩ := Sq.cap hv7
           have hcv := con8 (c := c7) hs7
           have hoff := hr7.bad
           have HR7 := Lib.hid hr7
           have HB7 := Lib.hid (HB6.out.grown hg7 hsz6 (fun j hj => by injection hj with hj; omega))
           clear hv7 hr7 hg7 hs7 HR6 HB6
           rw [HT.out] at HA HK
           simp only at HA HK
           cases st' with
           | none =>
             have hoff' : w7.cell? ⟨y, 2, none⟩ = some (.bool true) := hoff
             have HF := Lib.hid (show nameS xs = ([], 3) from name_form (read_off (by rw [HY.out, HA.out, itemsF_none])))
             clear hoff hcv
             go_wp2_with fail
             go_ret2
             rw [HF.out]
             exact ⟨rfl, HB7.out⟩
           | some rest' =>
             have hoff' : w7.cell? ⟨y, 2, none⟩ = some (.bool false) := hoff
             clear hoff
             have hk' : rest'.length < q := HK.out
             obtain ⟨kd, hkd⟩ : ∃ kd : Int, (p.1 : Int) = kd := ⟨_, rfl⟩
             rw [hkd] at HA ⊢
             clear hkd HT
             by_cases h1 : kd = 0
             · have hb : (kd == 0) = true := by simp [h1]
               have HHo := Lib.hid (show (l ++ [(kd, x)]).filter hostB = l.filter hostB ++ [(kd, x)] by rw [List.filter_append]; simp [hostB, h1])
               clear h1
               have HN' := Lib.hid (show RnAt y y w ys (cn + 1) (.string (str8 x)) (some rest') w7 from ⟨HR7.out, ⟨l ++ [(kd, x)], f', by have := HFf.out; have := HQ.out; show rest'.length < f'; have : leftS (some rest) = rest.length := rfl; omega, HA.out, by rw [HHo.out, HCn.out]; simp, by rw [HHo.out, lastN_snoc], by rw [HHo.out, lastN_snoc]; show x.length ≤ _; omega, fun h => by simp at h, by have := HLe.out; have := HQ.out; have : leftS (some rest) = rest.length := rfl; rw [List.length_append]; show l.length + 1 + rest'.length ≤ _; omega⟩, ⟨_, rfl⟩, HB7.out, hfar⟩)
               have hcnb : -9223372036854775808 ≤ cn + 1 ∧ cn + 1 ≤ 9223372036854775807 := by
                 have := HCn.out
                 have h2 := List.length_filter_le hostB l
                 have := HLe.out
                 omega
               go_wp2_with fail
               go_roundw
               case rel => exact ⟨cn + 1, some rest', by first | rfl | (congr 1; exact IntWalk.i64_in _ (by omega)), HN'⟩
               case measure => rw [Rq.qlen HR7.out, HQl.out]; exact hk'
             · have hb : (kd == 0) = false := by simp [h1]
               have HHo := Lib.hid (show (l ++ [(kd, x)]).filter hostB = l.filter hostB by rw [List.filter_append]; simp [hostB, h1])
               clear h1
               have HN' := Lib.hid (show RnAt y y w ys cn (.string (str8 (lastN (l.filter hostB)))) (some rest') w7 from ⟨HR7.out, ⟨l ++ [(kd, x)], f', by have := HFf.out; have := HQ.out; show rest'.length < f'; have : leftS (some rest) = rest.length := rfl; omega, HA.out, by rw [HHo.out, HCn.out], by rw [HHo.out], by rw [HHo.out]; exact HLn.out, fun h => by simp at h, by have := HLe.out; have := HQ.out; have : leftS (some rest) = rest.length := rfl; rw [List.length_append]; show l.length + 1 + rest'.length ≤ _; omega⟩, ⟨_, rfl⟩, HB7.out, hfar⟩)
               clear hcv
               go_wp2_with fail
               go_roundw
               case rel => exact ⟨cn, some rest', rfl, HN'⟩
               case measure => rw [Rq.qlen HR7.out, HQl.out]; exact hk'
         · have hre : rest = [] := List.eq_nil_of_length_eq_zero (by omega)
           subst hre
           obtain ⟨l, f, hf, hall, hcn, hs, hln, hne, hlen⟩ := HN.out.all
           have hlne : l ≠ [] := fun h => by have := hne h; injection this with this; exact Hne.out this.symm
           have HE := Lib.hid (show nameS xs = nameL (l.filter hostB) from name_ok (read_ok HD.out (by rw [HY.out, hall, itemsF_end rfl, List.append_nil]; rfl) hlne))
           subst hs
           have h0i : ¬ (0 : Int) < ((([] : List UInt8).length : Nat) : Int) := by simp
           clear hall hne hlen hf HN hlr h0 hlne
           rcases hm : l.filter hostB with _ | ⟨x, _ | ⟨z, m'⟩⟩
           · rw [hm] at hcn hln HE
             have hc0 : cn = 0 := by rw [hcn]; rfl
             subst hc0
             have HF := Lib.hid (show nameS xs = ([], 8) from HE.out)
             clear hcn hln hm HE
             go_wp2_with fail
             go_ret2
             rw [HF.out]
             exact ⟨rfl, HB5.out⟩
           · rw [hm] at hcn hln HE
             have hc0 : cn = 1 := by rw [hcn]; rfl
             subst hc0
             have hlx : lastN [x] = x.2 := rfl
             rw [hlx] at hln ⊢
             have HL := Lib.hid (show nameL [x] = if mayS x.2 then (x.2, 0) else ([], 9) from rfl)
             have HM := Lib.hid (show mayS x.2 = (decide (x.2.length ≤ 255) && Asc.allS Asc.visI x.2) from rfl)
             have hbs := bs_str8 x.2
             have hsz : (str8 x.2).size = x.2.length := rfl
             clear hcn hm hlx
             obtain ⟨s, hs⟩ : ∃ s, str8 x.2 = s := ⟨_, rfl⟩
             rw [hs] at hbs hsz ⊢
             have HS := Lib.hid hs
             have HBs := Lib.hid hbs
             clear hs hbs
             go_wp2_with fail
             refine (Asc.rvisible_any s w5 (by unfold maxLen; omega)).mono ?_
             rintro e w6 ⟨rfl, rfl⟩
             obtain ⟨b, hb⟩ : ∃ b, Asc.allS Asc.visI (Asc.bs s) = b := ⟨_, rfl⟩
             rw [hb]
             rw [HBs.out] at hb
             have Hb := Lib.hid hb
             clear hb
             by_cases h255 : x.2.length ≤ 255
             · have hd : decide ((255 : Int) < (s.size : Int)) = false := decide_eq_false (by omega)
               have hdz : ¬ (255 : Int) < (s.size : Int) := by omega
               have HMb := Lib.hid (show mayS x.2 = b by rw [HM.out, Hb.out, decide_eq_true h255]; rfl)
               clear h255 hsz
               cases b with
               | true =>
                 have HF := Lib.hid (show nameS xs = (x.2, 0) by rw [HE.out, HL.out, HMb.out]; rfl)
                 go_wp2_with fail
                 go_ret2
                 rw [HF.out]
                 exact ⟨by rw [HS.out]; rfl, HB5.out⟩
               | false =>
                 have HF := Lib.hid (show nameS xs = ([], 9) by rw [HE.out, HL.out, HMb.out]; rfl)
                 go_wp2_with fail
                 go_ret2
                 rw [HF.out]
                 exact ⟨rfl, HB5.out⟩
             · have hd : decide ((255 : Int) < (s.size : Int)) = true := decide_eq_true (by omega)
               have hdz : (255 : Int) < (s.size : Int) := by omega
               have HMb := Lib.hid (show mayS x.2 = false by rw [HM.out, decide_eq_false h255]; rfl)
               have HF := Lib.hid (show nameS xs = ([], 9) by rw [HE.out, HL.out, HMb.out]; rfl)
               clear h255 hsz
               go_wp2_with fail
               go_ret2
               rw [HF.out]
               exact ⟨rfl, HB5.out⟩
           · rw [hm] at hcn HE
             have HF := Lib.hid (show nameS xs = ([], 7) from HE.out)
             have hc1 : 1 < cn := by rw [hcn]; simp; omega
             clear hcn hln hm HE
             go_wp2_with fail
             go_ret2
             rw [HF.out]
             exact ⟨rfl, HB5.out⟩
   · have HF := Lib.hid (show nameS xs = ([], 3) from name_form (read_bad (by rw [HQ.out]; show rest.isEmpty = false; cases rest with
       | nil => exact absurd rfl hr0
       | cons a l => rfl)))
     have hl0 : leftS (some rest) = rest.length := rfl
     rw [hl0]
     have hri : (0 : Int) < (rest.length : Int) := by omega
     obtain ⟨m, hm⟩ : ∃ m, rest.length = m := ⟨_, rfl⟩
     rw [hm] at hri ⊢
     clear hm hl0 hr0
     go_wp2_with fail
     go_ret2
     rw [HF.out]
     exact ⟨rfl, HB3.out⟩
end Go.Proofs.YthfknndjdfofgaaGreatDoor.Ex

/-
 Contract of hagioscoperef10's Protocols over this seat's translation: it answers what protoS says.
-/
namespace Go.Proofs.YthfknndjdfofgaaGreatDoor.Ex
open Go.RowKit Go.Proofs.YthfknndjdfofgaaGreatDoor.Wd Go.Proofs.YthfknndjdfofgaaGreatDoor.Be Go.Proofs.YthfknndjdfofgaaGreatDoor.He Go.Proofs.YthfknndjdfofgaaGreatDoor.Ro

theorem proto_form {b : List UInt8} (h : (readS proO 2 b).2 = false) : protoS b = ([], 3) := by rw [protoS, h]; rfl
theorem proto_void {b : List UInt8} (h : [] ∈ (readS proO 2 b).1) : protoS b = ([], 3) := by
 have hc : (readS proO 2 b).1.contains [] = true := List.contains_iff_mem.2 h
 rw [protoS, hc]
 simp
theorem proto_ok {b : List UInt8} {l : List (List UInt8)} (h : readS proO 2 b = (l, true)) (hn : [] ∉ l) : protoS b = (l, 0) := by
 have hc : l.contains [] = false := by rw [Bool.eq_false_iff, Ne, List.contains_iff_mem]; exact hn
 rw [protoS, h]
 simp [hn]

structure RpAt (B r : Nat) (w : World) (ys : List UInt8) (v : Value) (st : Option (List UInt8)) (wr : World) : Prop where
 rd : Rq B wr r st
 all : ∃ l f, OwnE wr elS (r + 1) v l ∧ leftS st < f ∧ itemsS proO ys = (l ++ (itemsF proO f st).1, (itemsF proO f st).2) ∧ [] ∉ l ∧ (l = [] → st = some ys) ∧ l.length + leftS st ≤ 65535
 some_ : ∃ rest, st = some rest
 bel : Below w.heap.size w wr
 far : w.heap.size ≤ r

set_option maxRecDepth 100000 in
set_option maxHeartbeats 2000000 in
theorem rproto_any (A : Option Addr) (n c : Nat) (xs : List UInt8) (w : World) (hs : Src w A n xs) (hn : n ≤ 100000) (hnc : n ≤ c) (hc : c ≤ 9223372036854775807) :
   Calls Tryz.prog 85 #[.slice A n c] w fun e w' => ∃ v, e = .returned (.tuple #[v, .int .i64 (protoS xs).2]) ∧ RelP w' w.heap.size v (protoS xs).1 ∧ Below w.heap.size w w' := by
 have H0 := Lib.hid (Rq.new hs hn hnc hc rfl)
 have HB0 := Lib.hid ((Below.refl w.heap.size w).alloc (Nat.le_refl _) (.cells #[.slice A n c, .int .i64 0, .bool false] 160))
 have hsm := vec_small (some xs)
 clear hs
 go_enter Tryz.func85, Tryz.ntmps85
 go_wp2_with fail
 refine (qvec_any H0.out 2).mono ?_
 rintro e w1 ⟨v1, rfl, hv1, hr1, hg1⟩
 have HB1 := Lib.hid (HB0.out.grown hg1 HB0.out.size (fun j hj => by injection hj with hj; omega))
 obtain ⟨q, hq⟩ : ∃ q, vecS (some xs) 2 = q := ⟨_, rfl⟩
 have HQ := Lib.hid hq
 rw [hq] at hv1 hr1 hsm
 clear hq
 obtain ⟨ys, st1⟩ := q
 simp only at hv1 hr1 hsm
 obtain ⟨A2, c2, rfl, h2, h3, hs2⟩ := Sq.cap hv1
 have HL := Lib.hid (Rq.new hs2 (by omega) h2 h3 rfl)
 have HR1 := Lib.hid (hr1.below ((Below.refl w1.heap.size w1).alloc (Nat.le_refl _) (.cells #[.slice A2 ys.length c2, .int .i64 0, .bool false] 160)))
 have HB2 := Lib.hid (HB1.out.alloc HB1.out.size (.cells #[.slice A2 ys.length c2, .int .i64 0, .bool false] 160))
 have hsz1 := HB1.out.size
 clear hv1 hr1 hg1 hs2 H0 HB0 HB1
 have hoff := HR1.out.bad
 cases st1 with
 | none =>
   have hoff' : (w1.alloc (.cells #[.slice A2 ys.length c2, .int .i64 0, .bool false] 160)).cell? ⟨w.heap.size, 2, none⟩ = some (.bool true) := hoff
   have HF := Lib.hid (show protoS xs = ([], 3) from proto_form (read_bad (by rw [HQ.out]; rfl)))
   clear hoff
   go_wp2_with fail
   go_ret2
   rw [HF.out]
   exact ⟨_, rfl, ⟨OwnE.nil _ _ _, Nat.zero_le _⟩, HB2.out⟩
 | some rest =>
   have hoff' : (w1.alloc (.cells #[.slice A2 ys.length c2, .int .i64 0, .bool false] 160)).cell? ⟨w.heap.size, 2, none⟩ = some (.bool false) := hoff
   clear hoff
   go_upto_region 3 with fail
   generalize w1.alloc (.cells #[.slice A2 ys.length c2, .int .i64 0, .bool false] 160) = w2 at *
   generalize w1.heap.size = y at *
   go_wp2_with fail
   refine (qleft_any HR1.out).mono ?_
   rintro e w3 ⟨rfl, k3, rfl⟩
   have hd3 := drewN_below w2 k3
   have HB3 := Lib.hid (HB2.out.trans (hd3.mono HB2.out.size))
   have HL3 := Lib.hid (HL.out.below hd3)
   clear HB2 HL HR1 hd3 hoff'
   generalize w2.drewN k3 = w3 at *
   by_cases hr0 : rest.length = 0
   · have hrest : rest = [] := List.eq_nil_of_length_eq_zero hr0
     subst hrest
     have HD := Lib.hid (show doneS (vecS (some xs) 2).2 = true by rw [HQ.out]; rfl)
     have HY := Lib.hid (show (vecS (some xs) 2).1 = ys by rw [HQ.out])
     clear hr0
     have hl0 : ((leftS (some []) : Nat) : Int) = 0 := rfl
     rw [hl0]
     go_wp2_with fail
     refine (qleft_any HL3.out).mono ?_
     rintro e w4 ⟨rfl, k4, rfl⟩
     have hd4 := drewN_below w3 k4
     have HB4 := Lib.hid (HB3.out.trans (hd4.mono HB3.out.size))
     have HL4 := Lib.hid (HL3.out.below hd4)
     clear HB3 HL3 hd4
     generalize w3.drewN k4 = w4 at *
     have hly : leftS (some ys) = ys.length := rfl
     rw [hly]
     by_cases hy0 : ys.length = 0
     · have hye : ys = [] := List.eq_nil_of_length_eq_zero hy0
       have HF := Lib.hid (show protoS xs = ([], 3) from proto_form (read_empty (by rw [HY.out]; exact hye)))
       rw [hy0]
       go_wp2_with fail
       go_ret2
       rw [HF.out]
       exact ⟨_, rfl, ⟨OwnE.nil _ _ _, Nat.zero_le _⟩, HB4.out⟩
     · have hyb : ((ys.length : Int) == 0) = false := beq_eq_false_iff_ne.2 (by omega)
       have hfar := HL4.out.far
       have H0 : Hid (RpAt y y w ys (.slice none 0 0) (some ys) w4) := Lib.hid ⟨HL4.out, ⟨[], ys.length + 1, OwnE.nil _ _ _, by show ys.length < _; omega, rfl, by simp, fun _ => rfl, by show 0 + ys.length ≤ _; omega⟩, ⟨ys, rfl⟩, HB4.out, by omega⟩
       have Hne := Lib.hid (show ys ≠ [] from fun h => hy0 (by rw [h]; rfl))
       obtain ⟨m, hm⟩ : ∃ m, ys.length = m := ⟨_, rfl⟩
       rw [hm] at hyb ⊢
       clear HB4 HL4 hy0 hly hm hfar
       go_wp2_with fail
       clear HQ
       go_loopw [6] (fun a wr => ∃ (st : Option (List UInt8)), Hid (RpAt y y w ys a st wr)) (fun _ wr => qlen wr y)
       case atStart => exact ⟨some ys, H0⟩
       case round =>
         clear H0
         obtain ⟨st, HN⟩ := hrel
         obtain ⟨rest, rfl⟩ := HN.out.some_
         go_wp2_with fail
         refine (qleft_any HN.out.rd).mono ?_
         rintro e w5 ⟨rfl, k5, rfl⟩
         have hd5 := drewN_below wr k5
         have HR5 := Lib.hid (HN.out.rd.below hd5)
         have HB5 := Lib.hid (HN.out.bel.trans (hd5.mono HN.out.bel.size))
         have hlr : leftS (some rest) = rest.length := rfl
         rw [hlr]
         have HQl := Lib.hid (Rq.qlen HN.out.rd)
         obtain ⟨l, f, hOw, hf, hall, hnl, hne, hlen⟩ := HN.out.all
         have HO5 := Lib.hid (hOw.below hd5)
         have hfar := HN.out.far
         clear hd5 hOw HN
         generalize wr.drewN k5 = w5 at *
         by_cases h0 : 0 < rest.length
         · have h0i : (0 : Int) < (rest.length : Int) := by omega
           have HL0 := Lib.hid (show 0 < leftS (some rest) from h0)
           obtain ⟨q, hq⟩ : ∃ q, rest.length = q := ⟨_, rfl⟩
           rw [hq] at HQl h0i ⊢
           have HQ := Lib.hid hq
           clear hq hlr h0
           have HK := Lib.hid (show leftS (proO (some rest)).2 < q by have := proO_less _ HL0.out; have := HQ.out; show _ < q; rw [← this]; assumption)
           have hvs := vec_small1 (some rest)
           obtain ⟨f', rfl⟩ : ∃ f', f = f' + 1 := ⟨f - 1, by omega⟩
           have HA : Hid (itemsS proO ys = ((l ++ [(proO (some rest)).1]) ++ (itemsF proO f' (proO (some rest)).2).1, (itemsF proO f' (proO (some rest)).2).2)) := by
             rw [hall, itemsF_step HL0.out, List.append_assoc]; rfl
           have HT := Lib.hid (show proO (some rest) = vecS (some rest) 1 from rfl)
           have HLe := Lib.hid hlen
           have HFf := Lib.hid hf
           have HNl := Lib.hid hnl
           have hl65 : l.length ≤ 65535 := by omega
           clear hall hlen hf hne HL0 hnl
           go_wp2_with fail
           refine (qvec_any HR5.out 1).mono ?_
           rintro e w7 ⟨v7, rfl, hv7, hr7, hg7⟩
           obtain ⟨cs, hblk⟩ := HR5.out.blk
           have HO7 := Lib.hid (HO5.out.off hg7 (OffT.of_blk hblk (by decide)))
           generalize vecS (some rest) 1 = z at *
           obtain ⟨x, st'⟩ := z
           simp only at hv7 hr7 hvs
           obtain ⟨A7, c7, rfl, _, _, hs7⟩ := Sq.cap hv7
           have hcv := con8 (c := c7) hs7
           have hoff := hr7.bad
           have HR7 := Lib.hid hr7
           have HB7 := Lib.hid (HB5.out.grown hg7 HB5.out.size (fun j hj => by injection hj with hj; omega))
           clear hv7 hr7 hg7 hs7 HR5 HB5 HO5 hblk
           rw [HT.out] at HA HK
           simp only at HA HK
           cases st' with
           | none =>
             have hoff' : w7.cell? ⟨y, 2, none⟩ = some (.bool true) := hoff
             have HF := Lib.hid (show protoS xs = ([], 3) from proto_form (read_off (by rw [HY.out, HA.out, itemsF_none])))
             clear hoff hcv
             go_wp2_with fail
             go_ret2
             rw [HF.out]
             exact ⟨_, rfl, ⟨OwnE.nil _ _ _, Nat.zero_le _⟩, HB7.out⟩
           | some rest' =>
             have hoff' : w7.cell? ⟨y, 2, none⟩ = some (.bool false) := hoff
             clear hoff
             have hk' : rest'.length < q := HK.out
             clear HT
             by_cases h1 : x.length = 0
             · have hxe : x = [] := List.eq_nil_of_length_eq_zero h1
               have hb : ((x.length : Int) == 0) = true := by simp [hxe]
               have HF := Lib.hid (show protoS xs = ([], 3) from proto_void (by
                 show [] ∈ (itemsS proO (vecS (some xs) 2).1).1
                 rw [HY.out, HA.out, hxe]
                 simp))
               obtain ⟨m1, hm1⟩ : ∃ m, x.length = m := ⟨_, rfl⟩
               rw [hm1] at hb ⊢
               clear hcv h1 hm1 hxe
               go_wp2_with fail
               go_ret2
               rw [HF.out]
               exact ⟨_, rfl, ⟨OwnE.nil _ _ _, Nat.zero_le _⟩, HB7.out⟩
             · have hb : ((x.length : Int) == 0) = false := beq_eq_false_iff_ne.2 (by omega)
               have Hx := Lib.hid (show x ≠ [] from fun h => h1 (by rw [h]; rfl))
               clear h1
               have hC : (#[.string ⟨x.toArray⟩] : Array Value) = (Ro.flat elS [x]).toArray := by rw [Ro.flat_one]; rfl
               have HSr := Lib.hid (SrcE.new fineS w7 [x] #[.string ⟨x.toArray⟩] hC 9)
               have HOa := Lib.hid (HO7.out.alloc (.cells #[.string ⟨x.toArray⟩] 9))
               have HGe := Lib.hid (OwnE.ge HOa.out)
               have hlt7 : y < w7.heap.size := by obtain ⟨cs, hb⟩ := HR7.out.blk; exact hb.lt
               have HBa := Lib.hid (HB7.out.alloc HB7.out.size (.cells #[.string ⟨x.toArray⟩] 9))
               have HRa := Lib.hid (HR7.out.below ((Below.refl w7.heap.size w7).alloc (Nat.le_refl _) (.cells #[.string ⟨x.toArray⟩] 9)))
               clear HB7 HR7 HO7 hC
               go_wp2_with (at_builtin; refine wpList_appE fineS rfl _ _ rfl (y + 1) _ l rfl (by exact HOa.out) _ 1 1 [x] rfl rfl (by simp) (by exact HSr.out) (by simp; omega) (by decide) (by simp; omega) ?_; intro v8 w8 ho8 hg8)
               have HB8 := Lib.hid (HBa.out.grown hg8.out (by simp; have := HBa.out.size; simp at this; omega) (fun j hj => by have := HGe.out j hj; omega))
               have HR8 := Lib.hid (HRa.out.off hg8.out (fun j hj => by have := HGe.out j hj; omega))
               have HN' := Lib.hid (show RpAt y y w ys v8 (some rest') w8 from ⟨HR8.out, ⟨l ++ [x], f', ho8.out, by have := HFf.out; have := HQ.out; show rest'.length < f'; have : leftS (some rest) = rest.length := rfl; omega, HA.out, fun h => by
                 rcases List.mem_append.1 h with h | h
                 · exact HNl.out h
                 · simp at h; exact Hx.out h, fun h => by simp at h, by have := HLe.out; have := HQ.out; have : leftS (some rest) = rest.length := rfl; rw [List.length_append]; show l.length + 1 + rest'.length ≤ _; omega⟩, ⟨_, rfl⟩, HB8.out, hfar⟩)
               clear hg8 HBa HRa HGe HOa HSr
               go_roundw
               case rel => exact ⟨some rest', HN'⟩
               case measure => rw [Rq.qlen HR8.out, HQl.out]; exact hk'
         · have hre : rest = [] := List.eq_nil_of_length_eq_zero (by omega)
           subst hre
           have hlne : l ≠ [] := fun h => by have := hne h; injection this with this; exact Hne.out this.symm
           have HE := Lib.hid (show protoS xs = (l, 0) from proto_ok (read_ok HD.out (by rw [HY.out, hall, itemsF_end rfl, List.append_nil]; rfl) hlne) hnl)
           have h0i : ¬ (0 : Int) < ((([] : List UInt8).length : Nat) : Int) := by simp
           have hl65 : l.length ≤ 65535 := by omega
           clear hall hne hlen hf hlr h0 hlne hnl
           go_wp2_with fail
           go_ret2
           rw [HE.out]
           exact ⟨_, rfl, ⟨HO5.out.lower (by omega), hl65⟩, HB5.out⟩
   · have HF := Lib.hid (show protoS xs = ([], 3) from proto_form (read_bad (by rw [HQ.out]; show rest.isEmpty = false; cases rest with
       | nil => exact absurd rfl hr0
       | cons a l => rfl)))
     have hl0 : leftS (some rest) = rest.length := rfl
     rw [hl0]
     have hri : (0 : Int) < (rest.length : Int) := by omega
     obtain ⟨m, hm⟩ : ∃ m, rest.length = m := ⟨_, rfl⟩
     rw [hm] at hri ⊢
     clear hm hl0 hr0
     go_wp2_with fail
     go_ret2
     rw [HF.out]
     exact ⟨_, rfl, ⟨OwnE.nil _ _ _, Nat.zero_le _⟩, HB3.out⟩
end Go.Proofs.YthfknndjdfofgaaGreatDoor.Ex
