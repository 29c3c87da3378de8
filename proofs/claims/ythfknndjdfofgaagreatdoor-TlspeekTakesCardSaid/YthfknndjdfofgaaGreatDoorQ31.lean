/-
 Contract of hagioscoperef10's Versions over this seat's translation: it answers what verS says.
-/
import Derived.Test.YthfknndjdfofgaaGreatDoorQ30
import Derived.Test.YthfknndjdfofgaaGreatDoorQ09
namespace Go.Proofs.YthfknndjdfofgaaGreatDoor.Ex
open Go.RowKit Go.Proofs.YthfknndjdfofgaaGreatDoor.Wd Go.Proofs.YthfknndjdfofgaaGreatDoor.Be Go.Proofs.YthfknndjdfofgaaGreatDoor.He Go.Proofs.YthfknndjdfofgaaGreatDoor.Ro

theorem wp_appE {α : Type} {e : El α} {sl : TypeId} {z : Value} {bytes : Nat} (F : e.Fine sl z bytes) {o : Oper} {a : Act} {w : World} {K : Act → World → Prop} {Q : Exit → Act → World → Prop} (s x : Operand)
   (ho : o.op = .call { callee := .builtin .append, args := #[s, x], argTypes := #[sl, sl] })
   (B : Nat) (v : Value) (l : List α) (hs : a.eval s = v) (hown : OwnE w e B v l) (A : Option Addr) (n c : Nat) (m : List α) (hx : a.eval x = .slice A n c) (hn : n = m.length) (hne : m ≠ []) (hsrc : SrcE w e A m)
   (hlen : l.length + m.length ≤ 4294967296) (hby : bytes ≤ 32768) (hB : B ≤ w.heap.size)
   (h : ∀ v' w', Hid (OwnE w' e B v' (l ++ m)) → Hid (w.grownBy w' v.ownBlock) → K (a.put o.dst v') w') : Oper.wp Tryz.prog o a w K Q := by
 subst hn
 obtain ⟨v', w', hrun, h2, h3, _⟩ := run_appE F hown (c := c) hsrc hlen hby hB o.type (fun _ _ => hB) hne
 unfold Oper.wp execOp
 simp only [ho, resolve, invoke, builtin, Sem.run_bind, Sem.run_pure, Result.andThen_ok, List.map_toArray, List.map_cons, List.map_nil, hs, hx, hrun]
 exact h v' w' (Lib.hid h2) (Lib.hid h3)

theorem two_of (a b : UInt8) : two ((a.toNat : Int) * 256 + (b.toNat : Int)) = [a, b] := by
 have h1 : two ((a.toNat : Int) * 256 + (b.toNat : Int)) = [Go.Proofs.YthfknndjdfofgaaGreatDoor.Be.byteOf (((a.toNat : Int) * 256 + (b.toNat : Int)) / 256), Go.Proofs.YthfknndjdfofgaaGreatDoor.Be.byteOf ((a.toNat : Int) * 256 + (b.toNat : Int))] := rfl
 have ha := a.toNat_lt
 have hb := b.toNat_lt
 rw [h1]
 unfold Go.Proofs.YthfknndjdfofgaaGreatDoor.Be.byteOf
 rw [show (((a.toNat : Int) * 256 + (b.toNat : Int)) / 256 % 256).toNat = a.toNat by omega, show (((a.toNat : Int) * 256 + (b.toNat : Int)) % 256).toNat = b.toNat by omega]
 rw [UInt8.ofNat_toNat, UInt8.ofNat_toNat]
theorem pairs : ∀ (c : List UInt8), c.length % 2 = 0 → ∃ l : List Int, c = numsB l ∧ (∀ n ∈ l, In2 n) ∧ c.length = 2 * l.length ∧ ∀ (k : Nat) (a b : UInt8), c[2 * k]? = some a → c[2 * k + 1]? = some b → l[k]? = some ((a.toNat : Int) * 256 + (b.toNat : Int))
 | [], _ => ⟨[], rfl, fun _ h => absurd h List.not_mem_nil, rfl, fun k a b h => by simp at h⟩
 | [a], h => by simp at h
 | a :: b :: r, h => by
   obtain ⟨l, h1, h2, h3, h4⟩ := pairs r (by simp only [List.length_cons] at h; omega)
   refine ⟨((a.toNat : Int) * 256 + (b.toNat : Int)) :: l, ?_, fun n hn => ?_, by simp only [List.length_cons, h3]; omega, fun k x y hx hy => ?_⟩
   · rw [show numsB (((a.toNat : Int) * 256 + (b.toNat : Int)) :: l) = two ((a.toNat : Int) * 256 + (b.toNat : Int)) ++ numsB l by simp [numsB], two_of, ← h1]
     rfl
   · rcases List.mem_cons.1 hn with rfl | hn
     · have ha := a.toNat_lt
       have hb := b.toNat_lt
       unfold In2
       omega
     · exact h2 n hn
   · match k with
     | 0 =>
       have e1 : a = x := by simpa using hx
       have e2 : b = y := by simpa using hy
       rw [e1, e2]
       rfl
     | k + 1 =>
       rw [List.getElem?_cons_succ]
       refine h4 k x y ?_ ?_
       · rw [show 2 * (k + 1) = 2 * k + 1 + 1 by omega, List.getElem?_cons_succ, List.getElem?_cons_succ] at hx; exact hx
       · rw [show 2 * (k + 1) + 1 = 2 * k + 1 + 1 + 1 by omega, List.getElem?_cons_succ, List.getElem?_cons_succ] at hy; exact hy
theorem nums_even {c : List UInt8} (h : (numsS c).2 = true) : c.length = 2 * (numsS c).1.length := by
 have := congrArg List.length (numsS_inv h).1
 rwa [numsB_len] at this
theorem items_nums : ∀ (f : Nat) (st : Option (List UInt8)), itemsF verO f st = numsF f st
 | 0, _ => rfl
 | f + 1, st => by
   rw [itemsF, numsF, items_nums f]
   rfl
theorem itemsS_nums (b : List UInt8) : itemsS verO b = numsS b := items_nums _ _
theorem ver_form {b : List UInt8} (h : (readS verO 1 b).2 = false) : verS b = ([], 3) := by rw [verS, h]; rfl
theorem ver_ok {b : List UInt8} {l : List Int} (h : readS verO 1 b = (l, true)) : verS b = (l, 0) := by rw [verS, h]; rfl
theorem src_at {w : World} {ad : Addr} {n c i : Nat} {cs : List UInt8} {a : UInt8} (h : Sq w (.slice (some ad) n c) cs) (ha : cs[i]? = some a) : w.cell? (ad.add i) = some (.int .u8 (a.toNat : Int)) := by
 obtain ⟨h1, _, h3⟩ := h.nc
 have := (List.getElem?_eq_some_iff.1 ha).1
 obtain ⟨ad', e, _, hc⟩ := h3.2 (by omega)
 injection e with e
 subst e
 exact hc i a ha

structure RvAt (w : World) (A : Option Addr) (nl cl : Nat) (ys : List UInt8) (v : Value) (l : List Int) (wr : World) : Prop where
 own : OwnE wr elI w.heap.size v l
 sq : Sq wr (.slice A nl cl) ys
 bel : Below w.heap.size w wr
theorem RvAt.below {w wr w' : World} {A : Option Addr} {nl cl : Nat} {ys : List UInt8} {v : Value} {l : List Int} (h : RvAt w A nl cl ys v l wr) (hb : Below wr.heap.size wr w') : RvAt w A nl cl ys v l w' :=
 ⟨h.own.below hb, h.sq.below hb, h.bel.trans (hb.mono h.bel.size)⟩

set_option maxRecDepth 100000 in
set_option maxHeartbeats 2000000 in
theorem rvers_any (A : Option Addr) (n c : Nat) (xs : List UInt8) (w : World) (hs : Src w A n xs) (hn : n ≤ 100000) (hnc : n ≤ c) (hc : c ≤ 9223372036854775807) :
   Calls Tryz.prog 86 #[.slice A n c] w fun e w' => ∃ v, e = .returned (.tuple #[v, .int .i64 (verS xs).2]) ∧ RelV w' w.heap.size v (verS xs).1 ∧ Below w.heap.size w w' := by
 have H0 := Lib.hid (Rq.new hs hn hnc hc rfl)
 have HB0 := Lib.hid ((Below.refl w.heap.size w).alloc (Nat.le_refl _) (.cells #[.slice A n c, .int .i64 0, .bool false] 160))
 have hsm := vec_small1 (some xs)
 clear hs
 go_enter Tryz.func86, Tryz.ntmps86
 go_wp2_with fail
 refine (qvec_any H0.out 1).mono ?_
 rintro e w1 ⟨v1, rfl, hv1, hr1, hg1⟩
 have HB1 := Lib.hid (HB0.out.grown hg1 HB0.out.size (fun j hj => by injection hj with hj; omega))
 obtain ⟨q, hq⟩ : ∃ q, vecS (some xs) 1 = q := ⟨_, rfl⟩
 have HQ := Lib.hid hq
 rw [hq] at hv1 hr1 hsm
 clear hq
 obtain ⟨ys, st1⟩ := q
 simp only at hv1 hr1 hsm
 obtain ⟨A2, c2, rfl, h2, h3, _⟩ := Sq.cap hv1
 have HV := Lib.hid hv1
 have HR1 := Lib.hid hr1
 clear hv1 hr1 hg1 H0 HB0
 have hoff := HR1.out.bad
 cases st1 with
 | none =>
   have hoff' : w1.cell? ⟨w.heap.size, 2, none⟩ = some (.bool true) := hoff
   have HF := Lib.hid (show verS xs = ([], 3) from ver_form (read_bad (by rw [HQ.out]; rfl)))
   clear hoff
   go_wp2_with fail
   go_ret2
   rw [HF.out]
   exact ⟨_, rfl, ⟨OwnE.nil _ _ _, Nat.zero_le _⟩, HB1.out⟩
 | some rest =>
   have hoff' : w1.cell? ⟨w.heap.size, 2, none⟩ = some (.bool false) := hoff
   clear hoff
   go_wp2_with fail
   refine (qleft_any HR1.out).mono ?_
   rintro e w3 ⟨rfl, k3, rfl⟩
   have hd3 := drewN_below w1 k3
   have HB3 := Lib.hid (HB1.out.trans (hd3.mono HB1.out.size))
   have HV3 := Lib.hid (HV.out.below hd3)
   clear HB1 HV HR1 hd3 hoff'
   generalize w1.drewN k3 = w3 at *
   by_cases hr0 : rest.length = 0
   · have hrest : rest = [] := List.eq_nil_of_length_eq_zero hr0
     subst hrest
     have HD := Lib.hid (show doneS (vecS (some xs) 1).2 = true by rw [HQ.out]; rfl)
     have HY := Lib.hid (show (vecS (some xs) 1).1 = ys by rw [HQ.out])
     clear hr0 HQ
     have hl0 : ((leftS (some []) : Nat) : Int) = 0 := rfl
     rw [hl0]
     obtain ⟨nl, hnl⟩ : ∃ m, ys.length = m := ⟨_, rfl⟩
     rw [hnl] at hsm h2 HV3 ⊢
     have HNl := Lib.hid hnl
     clear hnl
     by_cases hy0 : nl = 0
     · have hye : ys = [] := List.eq_nil_of_length_eq_zero (by rw [HNl.out]; exact hy0)
       have HF := Lib.hid (show verS xs = ([], 3) from ver_form (read_empty (by rw [HY.out]; exact hye)))
       have hyb : ((nl : Int) == 0) = true := by simp [hy0]
       clear hy0 hye
       go_wp2_with fail
       go_ret2
       rw [HF.out]
       exact ⟨_, rfl, ⟨OwnE.nil _ _ _, Nat.zero_le _⟩, HB3.out⟩
     · have hyb : ((nl : Int) == 0) = false := beq_eq_false_iff_ne.2 (by omega)
       by_cases hev : nl % 2 = 0
       · have hmo : ¬ ((nl : Int) % 2 = 1) := by omega
         have hmo2 : ((nl : Int) % 2 == 1) = false := by rw [beq_eq_false_iff_ne]; omega
         obtain ⟨l, e1, e2, e3, e4⟩ := pairs ys (by rw [HNl.out]; exact hev)
         have hN : numsS ys = (l, true) := by rw [e1]; exact numsS_in l e2
         have hlne : l ≠ [] := fun h => by
           rw [h] at e3
           have := HNl.out
           simp at e3
           rw [e3] at this
           simp at this
           omega
         have HE := Lib.hid (show verS xs = (l, 0) from ver_ok (read_ok HD.out (by rw [HY.out, itemsS_nums]; exact hN) hlne))
         clear hN hlne
         have HE3 := Lib.hid (show nl = 2 * l.length by rw [← HNl.out]; exact e3)
         have HE4 := Lib.hid e4
         have H0 := Lib.hid (show RvAt w A2 nl c2 ys (.slice none 0 0) (l.take 0) w3 from ⟨OwnE.nil _ _ _, HV3.out, HB3.out⟩)
         clear e1 e2 e3 e4 HV3 HB3
         go_wp2_with fail
         clear hyb hev hmo hmo2 hy0
         go_loopw [6, 7] (fun v i wr => ∃ k, k ≤ l.length ∧ i = .int .i64 ((2 * k : Nat) : Int) ∧ Hid (RvAt w A2 nl c2 ys v (l.take k) wr)) (fun _ i _ => nl - (intOf i).toNat)
         case atStart => exact ⟨0, Nat.zero_le _, rfl, H0⟩
         case round =>
           clear H0
           obtain ⟨k, hk, rfl, HC⟩ := hrel
           by_cases hlt : k < l.length
           · have hki : ((2 * k : Nat) : Int) < (nl : Int) := by have := HE3.out; omega
             obtain ⟨a, ha⟩ : ∃ a, ys[2 * k]? = some a := ⟨_, List.getElem?_eq_getElem (by have := HE3.out; have := HNl.out; omega)⟩
             obtain ⟨b, hb⟩ : ∃ b, ys[2 * k + 1]? = some b := ⟨_, List.getElem?_eq_getElem (by have := HE3.out; have := HNl.out; omega)⟩
             have hz := HE4.out k a b ha hb
             obtain ⟨ad, hA8, _, _⟩ := (Sq.nc HC.out.sq).2.2.2 (by have := HE3.out; omega)
             subst hA8
             have HT1 := Lib.hid (show l.take (k + 1) = l.take k ++ [(a.toNat : Int) * 256 + (b.toNat : Int)] by rw [List.take_add_one, hz]; rfl)
             have hml : (l.take k).length ≤ 65535 := by rw [List.length_take]; have := HE3.out; omega
             generalize l.take k = m at *
             have HHa := Lib.hid ha
             have HHb := Lib.hid hb
             have hva := a.toNat_lt
             have hvb := b.toNat_lt
             have HCD := Lib.hid (HC.out.below (Below.refl wr.heap.size wr).drew)
             obtain ⟨va, hva'⟩ : ∃ va : Nat, va = a.toNat := ⟨_, rfl⟩
             obtain ⟨vb, hvb'⟩ : ∃ vb : Nat, vb = b.toNat := ⟨_, rfl⟩
             have HCa : Hid (∀ w', Sq w' (.slice (some ad) nl c2) ys → w'.cell? (ad.add (2 * k)) = some (.int .u8 (va : Int)) ∧ w'.cell? (ad.add (2 * k + 1)) = some (.int .u8 (vb : Int))) := fun w' h => by rw [hva', hvb']; exact ⟨src_at h HHa.out, src_at h HHb.out⟩
             rw [← hva'] at hva HT1
             rw [← hvb'] at hvb HT1
             clear hva' hvb' hz ha hb
             obtain ⟨i, hi⟩ : ∃ i, i = 2 * k := ⟨_, rfl⟩
             rw [← hi] at HCa hki
             rw [← hi]
             obtain ⟨j, hj⟩ : ∃ j, j = i + 1 := ⟨_, rfl⟩
             rw [← hj] at HCa
             have hj1 : i + 1 ≤ j := by omega
             have hj2 : j ≤ i + 1 := by omega
             clear hj
             have HI := Lib.hid hi
             have hi2 : i < 65536 := by omega
             have hki2 : (j : Int) < (nl : Int) := by have := HE3.out; have := HI.out; omega
             clear hi
             obtain ⟨Am, cm, hvm⟩ := OwnE.form HC.out.own
             subst hvm
             go_upto_region 9 with fail
             refine wp_region_held_drew (S := fun w' => w'.cell? (ad.add i) = some (.int .u8 (va : Int)) ∧ w'.cell? (ad.add j) = some (.int .u8 (vb : Int))) (by kernel_rfl) (HCa.out _ HCD.out.sq) (fun h0 => ?_)
             refine Ro.hd_take 0 (some 39) (.slice Am m.length cm) rfl rfl (by kernel_rfl) (by kernel_rfl) (by kernel_rfl) (fun _ _ _ h => h) (Or.inl ⟨by rfl, fun w hw => by go_simp⟩) h0 ?_
             simp only [Act.put, List.setIfInBounds_toArray, List.set_cons_zero, List.set_cons_succ]
             refine Ro.hd_take 1 (some 40) (.slice (some ad) nl c2) rfl rfl (by kernel_rfl) (by kernel_rfl) (by kernel_rfl) (fun _ _ _ h => h) (Or.inl ⟨by rfl, fun w hw => by go_simp⟩) h0 ?_
             simp only [Act.put, List.setIfInBounds_toArray, List.set_cons_zero, List.set_cons_succ]
             refine Ro.hd_take 2 (some 41) (.int .i64 (i : Int)) rfl rfl (by kernel_rfl) (by kernel_rfl) (by kernel_rfl) (fun _ _ _ h => h) (Or.inl ⟨by rfl, fun w hw => by go_simp⟩) h0 ?_
             simp only [Act.put, List.setIfInBounds_toArray, List.set_cons_zero, List.set_cons_succ]
             refine Ro.hd_take 3 (some 42) (.pointer (some (ad.add i))) rfl rfl (by kernel_rfl) (by kernel_rfl) (by kernel_rfl) (fun _ _ _ h => h) (Or.inl ⟨by rfl, fun w hw => by go_simp⟩) h0 ?_
             simp only [Act.put, List.setIfInBounds_toArray, List.set_cons_zero, List.set_cons_succ]
             refine Ro.hd_take 4 (some 43) (.int .u8 (va : Int)) rfl rfl (by kernel_rfl) (by kernel_rfl) (by kernel_rfl) (fun _ _ _ h => h) (Or.inl ⟨by rfl, fun w hw => by have hx := hw.1; go_simp⟩) h0 ?_
             simp only [Act.put, List.setIfInBounds_toArray, List.set_cons_zero, List.set_cons_succ]
             refine Ro.hd_take 5 (some 44) (.int .i64 (va : Int)) rfl rfl (by kernel_rfl) (by kernel_rfl) (by kernel_rfl) (fun _ _ _ h => h) (Or.inl ⟨by rfl, fun w hw => by go_simp <;> (first | exact IntWalk.i64_in _ (by omega) | (rw [IntWalk.i64_in _ (by omega)]; omega))⟩) h0 ?_
             simp only [Act.put, List.setIfInBounds_toArray, List.set_cons_zero, List.set_cons_succ]
             refine Ro.hd_take 6 (some 45) (.int .i64 ((va : Int) * 256)) rfl rfl (by kernel_rfl) (by kernel_rfl) (by kernel_rfl) (fun _ _ _ h => h) (Or.inl ⟨by rfl, fun w hw => by go_simp <;> (first | exact IntWalk.i64_in _ (by omega) | (rw [IntWalk.i64_in _ (by omega)]; omega))⟩) h0 ?_
             simp only [Act.put, List.setIfInBounds_toArray, List.set_cons_zero, List.set_cons_succ]
             refine Ro.hd_take 7 (some 46) (.slice (some ad) nl c2) rfl rfl (by kernel_rfl) (by kernel_rfl) (by kernel_rfl) (fun _ _ _ h => h) (Or.inl ⟨by rfl, fun w hw => by go_simp⟩) h0 ?_
             simp only [Act.put, List.setIfInBounds_toArray, List.set_cons_zero, List.set_cons_succ]
             refine Ro.hd_take 8 (some 47) (.int .i64 (i : Int)) rfl rfl (by kernel_rfl) (by kernel_rfl) (by kernel_rfl) (fun _ _ _ h => h) (Or.inl ⟨by rfl, fun w hw => by go_simp⟩) h0 ?_
             simp only [Act.put, List.setIfInBounds_toArray, List.set_cons_zero, List.set_cons_succ]
             refine Ro.hd_take 9 (some 48) (.int .i64 (j : Int)) rfl rfl (by kernel_rfl) (by kernel_rfl) (by kernel_rfl) (fun _ _ _ h => h) (Or.inl ⟨by rfl, fun w hw => by go_simp <;> (first | exact IntWalk.i64_in _ (by omega) | (rw [IntWalk.i64_in _ (by omega)]; omega))⟩) h0 ?_
             simp only [Act.put, List.setIfInBounds_toArray, List.set_cons_zero, List.set_cons_succ]
             refine Ro.hd_take 10 (some 49) (.pointer (some (ad.add j))) rfl rfl (by kernel_rfl) (by kernel_rfl) (by kernel_rfl) (fun _ _ _ h => h) (Or.inl ⟨by rfl, fun w hw => by go_simp⟩) h0 ?_
             simp only [Act.put, List.setIfInBounds_toArray, List.set_cons_zero, List.set_cons_succ]
             refine Ro.hd_take 11 (some 50) (.int .u8 (vb : Int)) rfl rfl (by kernel_rfl) (by kernel_rfl) (by kernel_rfl) (fun _ _ _ h => h) (Or.inl ⟨by rfl, fun w hw => by have hx := hw.2; go_simp⟩) h0 ?_
             simp only [Act.put, List.setIfInBounds_toArray, List.set_cons_zero, List.set_cons_succ]
             refine Ro.hd_take 12 (some 51) (.int .i64 (vb : Int)) rfl rfl (by kernel_rfl) (by kernel_rfl) (by kernel_rfl) (fun _ _ _ h => h) (Or.inl ⟨by rfl, fun w hw => by go_simp <;> (first | exact IntWalk.i64_in _ (by omega) | (rw [IntWalk.i64_in _ (by omega)]; omega))⟩) h0 ?_
             simp only [Act.put, List.setIfInBounds_toArray, List.set_cons_zero, List.set_cons_succ]
             refine Ro.hd_take 13 (some 52) (.int .i64 ((va : Int) * 256 + (vb : Int))) rfl rfl (by kernel_rfl) (by kernel_rfl) (by kernel_rfl) (fun _ _ _ h => h) (Or.inl ⟨by rfl, fun w hw => by go_simp <;> (first | exact IntWalk.i64_in _ (by omega) | (rw [IntWalk.i64_in _ (by omega)]; omega))⟩) h0 ?_
             simp only [Act.put, List.setIfInBounds_toArray, List.set_cons_zero, List.set_cons_succ]
             have HA := Lib.hid (HCD.out.below ((Below.refl wr.drew.heap.size wr.drew).alloc (Nat.le_refl _) (.cells #[.int .i64 ((va : Int) * 256 + (vb : Int))] 3)))
             have hC : (#[.int .i64 ((va : Int) * 256 + (vb : Int))] : Array Value) = (Ro.flat elI [(va : Int) * 256 + (vb : Int)]).toArray := by rw [Ro.flat_one]; rfl
             have HSr := Lib.hid (SrcE.new fineI wr.drew [(va : Int) * 256 + (vb : Int)] #[.int .i64 ((va : Int) * 256 + (vb : Int))] hC 3)
             refine wpAnyH_ready (rs := [14]) (by kernel_rfl) (by simp) (AllReadyH.cons rfl (fun K hK => ?_) AllReadyH.nil)
             go_simp
             refine hK.out _ _ (HCa.out _ HA.out.sq) (fun h1 => ?_)
             clear hK K
             refine wpAnyH_ready (rs := [15]) (by kernel_rfl) (by simp) (AllReadyH.cons rfl (fun K hK => ?_) AllReadyH.nil)
             refine wp_appE fineI (.tmp 39) (.tmp 53) rfl w.heap.size (.slice Am m.length cm) m rfl HA.out.own (some ⟨wr.heap.size, 0, none⟩) 1 1 [(va : Int) * 256 + (vb : Int)] rfl rfl (by simp) HSr.out (by simp; omega) (by decide) HA.out.bel.size ?_
             intro v5 w5 ho5 hg5
             have HP := Lib.hid (show RvAt w (some ad) nl c2 ys v5 (m ++ [(va : Int) * 256 + (vb : Int)]) w5 from ⟨ho5.out, Sq.off HA.out.sq hg5.out (HA.out.own.block (T := (· = 5)) (by decide)) rfl, HA.out.bel.grown hg5.out HA.out.bel.size (fun q hq => HA.out.own.ge q hq)⟩)
             refine hK.out _ _ (HCa.out _ HP.out.sq) (fun h2 => ?_)
             clear hK K
             refine Ro.hd_take 16 (some 6) (v5) rfl rfl (by kernel_rfl) (by kernel_rfl) (by kernel_rfl) (fun _ _ _ h => h) (Or.inl ⟨by rfl, fun w hw => by go_simp⟩) h2 ?_
             simp only [Act.put, List.setIfInBounds_toArray, List.set_cons_zero, List.set_cons_succ]
             refine wpAnyH_done (by kernel_rfl) ?_ _
             clear h0 h1 h2 HA hC HSr ho5 hg5 HCD HC
             have hi3 := HI.out
             subst hi3
             go_wp2_with fail
             go_roundw
             case rel => exact ⟨k + 1, by omega, by go_num, by rw [HT1.out]; exact HP⟩
             case measure => have := HE3.out; simp [intOf]; omega
           · have hkl : k = l.length := by omega
             have hki : ¬ ((2 * k : Nat) : Int) < (nl : Int) := by have := HE3.out; omega
             have HO := Lib.hid (show OwnE wr elI w.heap.size _ l by have := HC.out.own; rwa [hkl, List.take_length] at this)
             have HB := Lib.hid HC.out.bel
             have hl65 : l.length ≤ 65535 := by have := HE3.out; omega
             obtain ⟨i, hi⟩ : ∃ i, i = 2 * k := ⟨_, rfl⟩
             rw [← hi] at hki ⊢
             clear hi hkl HC hlt
             go_wp2_with fail
             go_ret2
             rw [HE.out]
             exact ⟨_, rfl, ⟨HO.out, hl65⟩, HB.out⟩
       · have hmo : (nl : Int) % 2 = 1 := by omega
         have hmo2 : ((nl : Int) % 2 == 1) = true := by rw [beq_iff_eq]; omega
         have HF := Lib.hid (show verS xs = ([], 3) from ver_form (read_off (by
           rw [HY.out, itemsS_nums, Bool.eq_false_iff]
           intro h
           have := nums_even h
           have := HNl.out
           omega)))
         clear hev hy0
         go_wp2_with fail
         go_ret2
         rw [HF.out]
         exact ⟨_, rfl, ⟨OwnE.nil _ _ _, Nat.zero_le _⟩, HB3.out⟩
   · have HF := Lib.hid (show verS xs = ([], 3) from ver_form (read_bad (by rw [HQ.out]; show rest.isEmpty = false; cases rest with
       | nil => exact absurd rfl hr0
       | cons a l => rfl)))
     have hl0 : leftS (some rest) = rest.length := rfl
     rw [hl0]
     have hri : (0 : Int) < (rest.length : Int) := by omega
     obtain ⟨m, hm⟩ : ∃ m, rest.length = m := ⟨_, rfl⟩
     rw [hm] at hri ⊢
     clear hm hl0 hr0
     go_wp2_with fail
     go_ret2
     rw [HF.out]
     exact ⟨_, rfl, ⟨OwnE.nil _ _ _, Nat.zero_le _⟩, HB3.out⟩
end Go.Proofs.YthfknndjdfofgaaGreatDoor.Ex

/-
 Contract of hagioscoperef09's Find over this seat's translation, with how much room what is found has.
-/
namespace Go.Proofs.YthfknndjdfofgaaGreatDoor.He
open Go.RowKit Go.Proofs.YthfknndjdfofgaaGreatDoor.Wd Go.Proofs.YthfknndjdfofgaaGreatDoor.Be

def RFindPostC (p : List UInt8 × Bool) (w : World) (e : Ending) (w' : World) : Prop :=
 ∃ A n c, e = .returned (.tuple #[.slice A n c, .bool p.2]) ∧ Src w' A n p.1 ∧ n ≤ c ∧ c ≤ 9223372036854775807 ∧ Below w.heap.size w w'

set_option maxRecDepth 100000 in
set_option maxHeartbeats 1000000 in
theorem rfindc_any (H : Hv) (kind : Int) (w : World) (hH : H.Ok w) (hcm : ∀ x ∈ H.xs, x.c ≤ maxLen) :
   Calls Tryz.prog 83 #[.agg H.C, .int .i64 kind] w (RFindPostC (findL H.hel.exts kind) w) := by
 have HH := Lib.hid hH
 have HCm := Lib.hid hcm
 have hr := hH.rnd
 have hx1 := hH.x1
 clear hH hcm
 obtain ⟨R, hR⟩ : ∃ R, R = findL H.hel.exts kind := ⟨_, rfl⟩
 have HR0 := Lib.hid hR
 rw [← hR]
 clear hR
 go_enter Tryz.func83, Tryz.ntmps83
 go_upto_region 1 with fail
 have hb0 := Blk.new w 68 H.C
 have HB := Lib.hid ((Below.refl w.heap.size w).alloc (Nat.le_refl _) (.cells H.C 68))
 generalize w.alloc (.cells H.C 68) = w1 at *
 have hcx := cell_xs hb0 hr
 clear hb0
 obtain ⟨n, hn⟩ : ∃ n, n = H.xs.length := ⟨_, rfl⟩
 rw [← hn] at hcx hx1
 have HN := Lib.hid hn
 clear hn
 go_wp2_with fail
 go_loop [6] (fun i => ∃ k, k ≤ n ∧ i = .int .i64 (k : Int) ∧ Hid (R = findL ((H.xs.drop k).map ext) kind)) (fun i => n - (intOf i).toNat)
 case atStart => exact ⟨0, Nat.zero_le _, rfl, Lib.hid (by rw [List.drop_zero]; exact HR0.out)⟩
 case round =>
   obtain ⟨k, hk, rfl, HE⟩ := hrel
   by_cases hlt : k < n
   · have hki : (k : Int) < (n : Int) := by omega
     obtain ⟨x, hx⟩ : ∃ x, H.xs[k]? = some x := ⟨_, List.getElem?_eq_getElem (by have := HN.out; omega)⟩
     obtain ⟨hok, g, o, hA, hgw, h0, h1⟩ := HH.out.xs k x hx
     rw [hA] at hcx
     have hc0 := (HB.out.cell (p := ⟨g, _, none⟩) hgw).trans h0
     have hc1 := (HB.out.cell (p := ⟨g, _, none⟩) hgw).trans h1
     have HOk := Lib.hid hok
     have HX := Lib.hid hx
     clear h0 h1 hok hx HR0 hA
     by_cases hkd : x.kind = kind
     · have HF := Lib.hid (show R = (x.b, true) by rw [HE.out]; exact findL_stop HX.out kind hkd)
       have hkb : (x.kind == kind) = true := by simpa using hkd
       clear hkd
       go_wp2_with fail
       go_ret2
       rw [HF.out]
       exact ⟨_, _, _, rfl, HOk.out.src.below HB.out, HOk.out.nc, by have := HCm.out x (List.mem_of_getElem? HX.out); unfold maxLen at this; omega, HB.out⟩
     · have HG := Lib.hid (show R = findL ((H.xs.drop (k + 1)).map ext) kind by rw [HE.out]; exact findL_go HX.out kind hkd)
       have hkb : (x.kind == kind) = false := by simpa using hkd
       clear hkd
       go_wp2_with fail
       go_round
       case rel => exact ⟨k + 1, by omega, by go_num, HG⟩
       case measure => simp [intOf]; omega
   · obtain rfl : k = n := by omega
     have HF := Lib.hid (show R = ([], false) by rw [HE.out, List.drop_eq_nil_of_le (by have := HN.out; omega)]; rfl)
     go_wp2_with fail
     go_ret2
     rw [HF.out]
     exact ⟨_, _, _, rfl, Src.nil _, Nat.le_refl _, by omega, HB.out⟩
end Go.Proofs.YthfknndjdfofgaaGreatDoor.He
