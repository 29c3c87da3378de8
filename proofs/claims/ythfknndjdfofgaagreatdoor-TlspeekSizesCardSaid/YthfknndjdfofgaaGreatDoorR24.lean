/-
 Contract of hagioscoperef09's wrong over this seat's translation.
-/
import Derived.Test.YthfknndjdfofgaaGreatDoorR21
namespace Go.Proofs.YthfknndjdfofgaaGreatDoor.He
open Go.RowKit Go.Proofs.YthfknndjdfofgaaGreatDoor.Wd Go.Proofs.YthfknndjdfofgaaGreatDoor.Be

theorem nodup_go {l : List Xt} {k : Nat} {x : Xt} (h : l[k]? = some x) : (!decide (kinds (l.take (k + 1))).Nodup) = ((!decide (kinds (l.take k)).Nodup) || decide (x.kind ∈ kinds (l.take k))) := by
 rw [kinds_snoc h, Bool.eq_iff_iff]
 simp only [Bool.not_eq_true', decide_eq_false_iff_not, Bool.or_eq_true, decide_eq_true_iff, List.nodup_append]
 constructor
 · intro hn
   by_cases h1 : (kinds (l.take k)).Nodup
   · right
     refine Classical.byContradiction fun h2 => hn ⟨h1, by simp, fun a ha b hb e => ?_⟩
     rw [List.mem_singleton] at hb
     exact h2 (by rw [← hb, ← e]; exact ha)
   · exact .inl h1
 · rintro (h1 | h1) ⟨h2, _, h3⟩
   · exact h1 h2
   · exact h3 _ h1 _ (List.mem_singleton.2 rfl) rfl
theorem mem_go {l : List Xt} {m : Nat} {y : Xt} (h : l[m]? = some y) (z : Int) : decide (z ∈ kinds (l.take (m + 1))) = (decide (z ∈ kinds (l.take m)) || decide (z = y.kind)) := by
 rw [kinds_snoc h, Bool.eq_iff_iff]
 simp
theorem zero_go {l : List UInt8} {k : Nat} {c : UInt8} (h : l[k]? = some c) : decide ((0 : UInt8) ∈ l.take (k + 1)) = (decide ((0 : UInt8) ∈ l.take k) || decide (c = 0)) := by
 rw [List.take_add_one, h]
 by_cases h1 : (0 : UInt8) ∈ l.take k
 · rw [decide_eq_true h1, decide_eq_true (List.mem_append_left _ h1)]; rfl
 · by_cases h2 : c = 0
   · rw [decide_eq_true h2, Bool.or_true]
     exact decide_eq_true (List.mem_append_right _ (by rw [h2]; exact List.mem_singleton.2 rfl))
   · rw [decide_eq_false h1, decide_eq_false h2]
     refine decide_eq_false (fun hm => ?_)
     rcases List.mem_append.1 hm with hm | hm
     · exact h1 hm
     · exact h2 (List.mem_singleton.1 hm).symm

set_option linter.unusedSimpArgs false in
set_option maxRecDepth 100000 in
set_option maxHeartbeats 2000000 in
theorem rwrong_any (H : Hv) (w : World) (hH : H.Ok w) :
   Calls Tryz.prog 82 #[.agg H.C] w fun e w' => e = .returned (.int .i64 (wrongS H.hel)) ∧ Below w.heap.size w w' := by
 have HE : Hid (∀ i : Int, wrongS H.hel = i → Ending.returned (.int .i64 i) = .returned (.int .i64 (wrongS H.hel))) := fun i h => by rw [h]
 have hr := hH.rnd
 go_enter Tryz.func82, Tryz.ntmps82
 go_upto_region 1 with fail
 have hb := Blk.new w 68 H.C
 have HB1 := Lib.hid ((Below.refl w.heap.size w).alloc (Nat.le_refl _) (.cells H.C 68))
 have hok := hH.below HB1.out
 generalize w.alloc (.cells H.C 68) = w1 at *
 obtain ⟨g, hg⟩ : ∃ g, g = w.heap.size := ⟨_, rfl⟩
 rw [← hg] at hb ⊢
 clear hg
 have HK := Lib.hid hok
 have hm1 := hok.m1.2
 have hx1 := hok.x1.2
 have c4 := cell_met hb hr
 have HBk := Lib.hid hb
 clear hb hok hH
 obtain ⟨nm, hnm⟩ : ∃ n, n = H.met.length := ⟨_, rfl⟩
 rw [← hnm] at hm1 c4
 have HNm := Lib.hid hnm
 obtain ⟨n, hn⟩ : ∃ n, n = H.xs.length := ⟨_, rfl⟩
 rw [← hn] at hx1
 have HN := Lib.hid hn
 clear hnm hn
 go_wp2_with fail
 go_loop [3, 4] (fun t i => ∃ k b, k ≤ nm ∧ i = .int .i64 (k : Int) ∧ t = .bool b ∧ Hid (b = decide ((0 : UInt8) ∈ H.met.take k))) (fun _ i => nm - (intOf i).toNat)
 case atStart => exact ⟨0, false, Nat.zero_le _, rfl, rfl, Lib.hid (by simp)⟩
 case round =>
   obtain ⟨k, b, hk, rfl, rfl, HD⟩ := hrel
   by_cases hlt : k < nm
   · have hki : (k : Int) < (nm : Int) := by omega
     obtain ⟨c, hc⟩ : ∃ c, H.met[k]? = some c := ⟨_, List.getElem?_eq_getElem (by have := HNm.out; omega)⟩
     have HG := Lib.hid (zero_go hc)
     cases b with
     | true =>
       have HG2 := Lib.hid (show true = decide ((0 : UInt8) ∈ H.met.take (k + 1)) by rw [HG.out, ← HD.out]; rfl)
       clear HG HD
       go_wp2_with fail
       go_round
       case rel => exact ⟨k + 1, true, by omega, by go_num, rfl, HG2⟩
       case measure => simp [intOf]; omega
     | false =>
       obtain ⟨ad, hA, _, hcell⟩ := HK.out.met.2 (by have := HNm.out; omega)
       rw [hA] at c4
       have hc1 : w1.cell? (ad.add k) = some (.int .u8 (c.toNat : Int)) := hcell k c hc
       by_cases h0 : c = 0
       · have HG2 := Lib.hid (show true = decide ((0 : UInt8) ∈ H.met.take (k + 1)) by rw [HG.out, decide_eq_true h0, Bool.or_true])
         rw [h0, show ((0 : UInt8).toNat : Int) = 0 from rfl] at hc1
         clear HG HD hcell h0
         go_wp2_with fail
         go_round
         case rel => exact ⟨k + 1, true, by omega, by go_num, rfl, HG2⟩
         case measure => simp [intOf]; omega
       · have HG2 := Lib.hid (show false = decide ((0 : UInt8) ∈ H.met.take (k + 1)) by rw [HG.out, ← HD.out, decide_eq_false h0]; rfl)
         have hcb : ((c.toNat : Int) == 0) = false := by
           rw [beq_eq_false_iff_ne]
           intro e
           exact h0 (UInt8.toNat.inj (by rw [show (0 : UInt8).toNat = 0 from rfl]; omega))
         generalize (c.toNat : Int) = ci at *
         clear HG HD hcell h0
         go_wp2_with fail
         go_round
         case rel => exact ⟨k + 1, false, by omega, by go_num, rfl, HG2⟩
         case measure => simp [intOf]; omega
   · obtain rfl : k = nm := by omega
     have HZ := Lib.hid (show b = decide ((0 : UInt8) ∈ H.met) by rw [HD.out, List.take_of_length_le (by have := HNm.out; omega)])
     clear HD
     go_wp2_with fail
     go_loopw [5, 6] (fun t i wr => ∃ k b2, k ≤ n ∧ i = .int .i64 (k : Int) ∧ t = .bool b2 ∧ Hid (b2 = !decide (kinds (H.xs.take k)).Nodup) ∧ Hid (∃ j, wr = w1.drewN j)) (fun _ i _ => n - (intOf i).toNat)
     case atStart => exact ⟨0, false, Nat.zero_le _, rfl, rfl, Lib.hid (by simp [kinds]), Lib.hid ⟨0, rfl⟩⟩
     case round =>
       obtain ⟨i, b2, hi, rfl, rfl, HD, HW⟩ := hrel
       have hcx : wr.cell? ⟨g, 37, none⟩ = some (.slice H.xA n H.xc) := by obtain ⟨j, rfl⟩ := HW.out; rw [HN.out]; exact cell_xs HBk.out hr
       by_cases hlt : i < n
       · have hii : (i : Int) < (n : Int) := by omega
         obtain ⟨x, hx⟩ : ∃ x, H.xs[i]? = some x := ⟨_, List.getElem?_eq_getElem (by have := HN.out; omega)⟩
         obtain ⟨-, gx, ox, hXA, -, h0x, -⟩ := HK.out.xs i x hx
         have HNd := Lib.hid (nodup_go hx)
         have H0x := Lib.hid h0x
         have HXA := Lib.hid hXA
         clear hx h0x hXA
         go_wp2_with fail
         go_loopw [5, 7] (fun t j wr => ∃ m b3, m ≤ i ∧ j = .int .i64 (m : Int) ∧ t = .bool b3 ∧ Hid (b3 = ((!decide (kinds (H.xs.take i)).Nodup) || decide (x.kind ∈ kinds (H.xs.take m)))) ∧ Hid (∃ j, wr = w1.drewN j)) (fun _ j _ => i - (intOf j).toNat)
         case atStart => exact ⟨0, b2, Nat.zero_le _, rfl, rfl, Lib.hid (by rw [HD.out]; simp [kinds]), HW⟩
         case round =>
           clear HD HW hcx
           obtain ⟨m, b3, hm, rfl, rfl, HD, HW⟩ := hrel
           by_cases hlt2 : m < i
           · have hmi : (m : Int) < (i : Int) := by omega
             have hmn : (m : Int) < (n : Int) := by omega
             obtain ⟨y, hy⟩ : ∃ y, H.xs[m]? = some y := ⟨_, List.getElem?_eq_getElem (by have := HN.out; omega)⟩
             have HM := Lib.hid (mem_go hy x.kind)
             cases b3 with
             | true =>
               have HG2 := Lib.hid (show true = ((!decide (kinds (H.xs.take i)).Nodup) || decide (x.kind ∈ kinds (H.xs.take (m + 1)))) by rw [HM.out, ← Bool.or_assoc, ← HD.out]; rfl)
               clear HD HM
               go_upto_region 13 with fail
               go_quiet (fail)
               go_wp2_with fail
               go_roundw
               case rel => exact ⟨m + 1, true, by omega, by go_num, rfl, HG2, Lib.hid (drewN_two HW.out nq)⟩
               case measure => simp [intOf]; omega
             | false =>
               obtain ⟨-, gy, oy, hYA, -, h0y, -⟩ := HK.out.xs m y hy
               have e2 := HXA.out.symm.trans hYA
               injection e2 with e2
               injection e2 with e2 e3
               subst e2 e3
               have hcx : wr.cell? ⟨g, 37, none⟩ = some (.slice (some ⟨gx, ox, none⟩) n H.xc) := by obtain ⟨j, rfl⟩ := HW.out; rw [← HXA.out, HN.out]; exact cell_xs HBk.out hr
               have c0x : wr.cell? ⟨gx, ox + i * 2, none⟩ = some (.int .i64 x.kind) := by obtain ⟨j, rfl⟩ := HW.out; exact H0x.out
               have c0y : wr.cell? ⟨gx, ox + m * 2, none⟩ = some (.int .i64 y.kind) := by obtain ⟨j, rfl⟩ := HW.out; exact h0y
               clear h0y hy hYA
               by_cases hkd : x.kind = y.kind
               · have HG2 := Lib.hid (show true = ((!decide (kinds (H.xs.take i)).Nodup) || decide (x.kind ∈ kinds (H.xs.take (m + 1)))) by rw [HM.out, decide_eq_true hkd, Bool.or_true, Bool.or_true])
                 have bk : (x.kind == y.kind) = true := by simpa using hkd
                 clear hkd HD HM
                 go_upto_region 13 with fail
                 go_quiet (fail)
                 go_wp2_with fail
                 go_roundw
                 case rel => exact ⟨m + 1, true, by omega, by go_num, rfl, HG2, Lib.hid (drewN_two HW.out nq)⟩
                 case measure => simp [intOf]; omega
               · have HG2 := Lib.hid (show false = ((!decide (kinds (H.xs.take i)).Nodup) || decide (x.kind ∈ kinds (H.xs.take (m + 1)))) by rw [HM.out, decide_eq_false hkd, Bool.or_false]; exact HD.out)
                 have bk : (x.kind == y.kind) = false := by simpa using hkd
                 clear hkd HD HM
                 go_upto_region 13 with fail
                 go_quiet (fail)
                 go_wp2_with fail
                 go_roundw
                 case rel => exact ⟨m + 1, false, by omega, by go_num, rfl, HG2, Lib.hid (drewN_two HW.out nq)⟩
                 case measure => simp [intOf]; omega
           · obtain rfl : m = i := by omega
             have HG2 := Lib.hid (show b3 = !decide (kinds (H.xs.take (m + 1))).Nodup by rw [HNd.out]; exact HD.out)
             clear HD
             go_wp2_with fail
             go_roundw
             case rel => exact ⟨m + 1, b3, by omega, by go_num, rfl, HG2, HW⟩
             case measure => simp [intOf]; omega
       · obtain rfl : i = n := by omega
         have HT := Lib.hid (show b2 = !decide (H.hel.exts.map (·.1)).Nodup by
           rw [HD.out, List.take_of_length_le (by have := HN.out; omega)]
           show _ = !decide ((H.xs.map ext).map (·.1)).Nodup
           rw [← twice_hel]; rfl)
         have HBw := Lib.hid (show Below w.heap.size w wr by obtain ⟨j, rfl⟩ := HW.out; exact HB1.out.trans (((But.refl [] w1).drewN _).below (by simp) HB1.out.size))
         have c0 : wr.cell? ⟨g, 0, none⟩ = some (.int .i64 H.ver) := by obtain ⟨j, rfl⟩ := HW.out; exact cell_ver HBk.out
         have c2 : wr.cell? ⟨g, 33, none⟩ = some (.slice H.sA H.ses.length H.sc) := by obtain ⟨j, rfl⟩ := HW.out; exact cell_ses HBk.out hr
         have hv := HK.out.ver
         have hs1 := HK.out.s1.2
         clear HD HW
         by_cases h3 : H.ver.tdiv 256 = 3
         · have hv3 := ver_in h3
           by_cases hs : 32 < H.ses.length
           · have HWr := Lib.hid (wS6 (h := H.hel) h3 hs)
             go_wp2_with fail
             go_ret
             exact ⟨HE.out _ HWr.out, HBw.out⟩
           · have hs' : ¬ (32 : Int) < (H.ses.length : Int) := by omega
             by_cases hmem : (0 : UInt8) ∈ H.met
             · obtain rfl : b = true := by rw [HZ.out]; exact decide_eq_true hmem
               by_cases ht : (H.hel.exts.map (·.1)).Nodup
               · obtain rfl : b2 = false := by rw [HT.out, decide_eq_true ht]; rfl
                 have HWr := Lib.hid (wS0 (h := H.hel) h3 hs hmem ht)
                 clear ht hmem h3
                 go_wp2_with fail
                 go_ret
                 exact ⟨HE.out _ HWr.out, HBw.out⟩
               · obtain rfl : b2 = true := by rw [HT.out, decide_eq_false ht]; rfl
                 have HWr := Lib.hid (wS7 (h := H.hel) h3 hs hmem ht)
                 clear ht hmem h3
                 go_wp2_with fail
                 go_ret
                 exact ⟨HE.out _ HWr.out, HBw.out⟩
             · obtain rfl : b = false := by rw [HZ.out]; exact decide_eq_false hmem
               have HWr := Lib.hid (wS8 (h := H.hel) h3 hs hmem)
               clear hmem h3
               go_wp2_with fail
               go_ret
               exact ⟨HE.out _ HWr.out, HBw.out⟩
         · have HWr := Lib.hid (wS5 (h := H.hel) h3)
           go_wp2_with fail
           go_ret
           exact ⟨HE.out _ HWr.out, HBw.out⟩
end Go.Proofs.YthfknndjdfofgaaGreatDoor.He
