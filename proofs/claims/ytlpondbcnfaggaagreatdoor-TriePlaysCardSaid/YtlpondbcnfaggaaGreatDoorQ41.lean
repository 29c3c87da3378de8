/-
  Contract of hagioscoperef18's Less over this seat's translation: it answers what lt says. No condition beyond the texts' lengths.
-/
import Derived.Test.YtlpondbcnfaggaaGreatDoorQ24
import Derived.Test.YtlpondbcnfaggaaGreatDoorQ26
namespace Go.Proofs.YtlpondbcnfaggaaGreatDoor.Tr
open Go.RowKit Go.Proofs.YtlpondbcnfaggaaGreatDoor.Wd Go.Proofs.YtlpondbcnfaggaaGreatDoor.Asc Go.Proofs.YtlpondbcnfaggaaGreatDoor.Tx Go.Proofs.YtlpondbcnfaggaaGreatDoor.St

/-- two rules boxed, one behind the other -/
theorem ru_box2 (w : World) (a : Bool) (p : Int) (PA : ByteArray) (o : Int) (AP : ByteArray) (a' : Bool) (p' : Int) (PA' : ByteArray) (o' : Int) (AP' : ByteArray) : ∃ w2, (w.alloc (.cells #[.bool a, .int .i64 p, .string PA, .int .i64 o, .string AP] 23)).alloc (.cells #[.bool a', .int .i64 p', .string PA', .int .i64 o', .string AP'] 23) = w2 ∧ w.heap.size + 1 < w2.heap.size ∧ Below w.heap.size w w2 ∧
    w2.cell? ⟨w.heap.size, 1, none⟩ = some (.int .i64 p) ∧ w2.cell? ⟨w.heap.size, 2, none⟩ = some (.string PA) ∧ w2.cell? ⟨w.heap.size + 1, 1, none⟩ = some (.int .i64 p') ∧ w2.cell? ⟨w.heap.size + 1, 2, none⟩ = some (.string PA') := by
  have b1 := Blk.new w 23 #[.bool a, .int .i64 p, .string PA, .int .i64 o, .string AP]
  have l1 : Below w.heap.size w (w.alloc (.cells #[.bool a, .int .i64 p, .string PA, .int .i64 o, .string AP] 23)) := (Below.refl _ _).alloc (Nat.le_refl _) _
  have b2 := Blk.new (w.alloc (.cells #[.bool a, .int .i64 p, .string PA, .int .i64 o, .string AP] 23)) 23 #[.bool a', .int .i64 p', .string PA', .int .i64 o', .string AP']
  have l2 : Below (w.alloc (.cells #[.bool a, .int .i64 p, .string PA, .int .i64 o, .string AP] 23)).heap.size _ ((w.alloc (.cells #[.bool a, .int .i64 p, .string PA, .int .i64 o, .string AP] 23)).alloc (.cells #[.bool a', .int .i64 p', .string PA', .int .i64 o', .string AP'] 23)) := (Below.refl _ _).alloc (Nat.le_refl _) _
  have b3 := b1.below l2 b1.lt
  have l3 := l1.trans (l2.mono l1.size)
  rw [alloc_size] at b2
  exact ⟨_, rfl, b2.lt, l3, b3.cell 1, b3.cell 2, b2.cell 1, b2.cell 2⟩
set_option linter.unusedSimpArgs false in
set_option maxRecDepth 100000 in
set_option maxHeartbeats 8000000 in
theorem rless_any (a b : Ru) (w : World) (h1 : a.pa.length ≤ 1000000) (h2 : b.pa.length ≤ 1000000) :
    Calls Tryz.prog 47 #[.agg (ruC a), .agg (ruC b)] w fun e w' => e = .returned (.bool (decide (lt a b))) ∧ Below w.heap.size w w' := by
  obtain ⟨al, pr, pa, po, ap⟩ := a
  obtain ⟨al', pr', pa', po', ap'⟩ := b
  obtain ⟨PA, hPA⟩ : ∃ A, str pa = A := ⟨_, rfl⟩
  obtain ⟨AP, hAP⟩ : ∃ A, str ap = A := ⟨_, rfl⟩
  obtain ⟨PB, hPB⟩ : ∃ A, str pa' = A := ⟨_, rfl⟩
  obtain ⟨BP, hBP⟩ : ∃ A, str ap' = A := ⟨_, rfl⟩
  have hpa : bs PA = pa := by rw [← hPA, bs_str]
  have hpb : bs PB = pa' := by rw [← hPB, bs_str]
  have z1 : PA.size ≤ 2147483640 := by rw [← bs_length, hpa]; exact Nat.le_trans h1 (by decide)
  have z2 : PB.size ≤ 2147483640 := by rw [← bs_length, hpb]; exact Nat.le_trans h2 (by decide)
  obtain ⟨wa, hwa⟩ : ∃ n, weightP (bs PA) = n := ⟨_, rfl⟩
  obtain ⟨wb, hwb⟩ : ∃ n, weightP (bs PB) = n := ⟨_, rfl⟩
  have HA := Lib.hid (fun w => rweight_any PA w z1)
  have HBw := Lib.hid (fun w => rweight_any PB w z2)
  rw [hwa] at HA
  rw [hwb] at HBw
  have HM : Hid (lt ⟨al, pr, pa, po, ap⟩ ⟨al', pr', pa', po', ap'⟩ ↔ pr < pr' ∨ (pr = pr' ∧ wa < wb)) := Lib.hid (by
    unfold lt
    simp only
    rw [← hpa, ← hpb, hwa, hwb])
  have hA : ruC ⟨al, pr, pa, po, ap⟩ = #[.bool al, .int .i64 pr, .string PA, .int .i64 po, .string AP] := by rw [← hPA, ← hAP]; rfl
  have hB : ruC ⟨al', pr', pa', po', ap'⟩ = #[.bool al', .int .i64 pr', .string PB, .int .i64 po', .string BP] := by rw [← hPB, ← hBP]; rfl
  rw [hA, hB]
  clear hA hB hPA hAP hPB hBP hpa hpb h1 h2 z1 z2 hwa hwb
  go_enter Tryz.func47, Tryz.ntmps47
  go_upto_region 1 with fail
  obtain ⟨w2, hw2, hlt, hbel, c1, c2, d1, d2⟩ := ru_box2 w al pr PA po AP al' pr' PB po' BP
  rw [hw2]
  generalize hG : w.heap.size = G at *
  have HG := Lib.hid hG
  have HB2 := Lib.hid hbel
  have HLt := Lib.hid hlt
  have C2 := Lib.hid c2
  have D2 := Lib.hid d2
  clear hw2 hbel hG hlt c2 d2
  by_cases hp : pr = pr'
  · have hp2 := hp
    have HQ : Hid (decide (lt ⟨al, pr, pa, po, ap⟩ ⟨al', pr', pa', po', ap'⟩) = decide ((wa : Int) < (wb : Int))) := Lib.hid (by
      rw [decide_eq_decide, HM.out]
      omega)
    have e1 : (pr != pr') = false := by rw [bne_eq_false_iff_eq]; exact hp
    clear HM hp hp2
    go_upto_region 3 with fail
    refine wp_region_held_drew (S := fun w' => w'.cell? ⟨G, 2, none⟩ = some (.string PA) ∧ w'.cell? ⟨G + 1, 2, none⟩ = some (.string PB)) (by kernel_rfl) ⟨C2.out, D2.out⟩ (fun h0 => ?_)
    refine hd_take 0 (some 15) (.pointer (some ⟨G, 2, none⟩)) rfl rfl (by kernel_rfl) (by kernel_rfl) (by kernel_rfl) (fun _ _ _ h => h) (Or.inl ⟨by rfl, fun w hw => by go_simp⟩) h0 ?_
    simp only [Act.put, List.setIfInBounds_toArray, List.set_cons_zero, List.set_cons_succ]
    refine hd_take 1 (some 16) (.string PA) rfl rfl (by kernel_rfl) (by kernel_rfl) (by kernel_rfl) (fun _ _ _ h => h) (Or.inl ⟨by rfl, fun w hw => by have h9 := hw.1; go_simp⟩) h0 ?_
    simp only [Act.put, List.setIfInBounds_toArray, List.set_cons_zero, List.set_cons_succ]
    refine hd_take 3 (some 18) (.pointer (some ⟨G + 1, 2, none⟩)) rfl rfl (by kernel_rfl) (by kernel_rfl) (by kernel_rfl) (fun _ _ _ h => h) (Or.inl ⟨by rfl, fun w hw => by go_simp⟩) h0 ?_
    simp only [Act.put, List.setIfInBounds_toArray, List.set_cons_zero, List.set_cons_succ]
    refine hd_take 4 (some 19) (.string PB) rfl rfl (by kernel_rfl) (by kernel_rfl) (by kernel_rfl) (fun _ _ _ h => h) (Or.inl ⟨by rfl, fun w hw => by have h9 := hw.2; go_simp⟩) h0 ?_
    simp only [Act.put, List.setIfInBounds_toArray, List.set_cons_zero, List.set_cons_succ]
    refine wpAnyH_ready (rs := [2]) (by kernel_rfl) (by simp) (AllReadyH.cons rfl (fun K hK => ?_) AllReadyH.nil)
    go_simp
    go_wp2_with (go_at_call 82; refine (HA.out _).mono ?_; rintro e w3 ⟨rfl, hb⟩; have hd : Below w2.heap.size w2 w3 := (show Below w2.heap.size w2 w2.drew from (Below.refl _ _).drew).trans hb; have HD3 := Lib.hid hd; clear hb hd)
    refine hK.out _ _ ⟨(HD3.out.cell (p := ⟨G, 2, none⟩) (Nat.lt_of_succ_lt HLt.out)).trans C2.out, (HD3.out.cell (p := ⟨G + 1, 2, none⟩) HLt.out).trans D2.out⟩ (fun h2 => ?_)
    clear hK K h0
    refine wpAnyH_ready (rs := [5]) (by kernel_rfl) (by simp) (AllReadyH.cons rfl (fun K hK => ?_) AllReadyH.nil)
    go_simp
    go_wp2_with (go_at_call 82; refine (HBw.out _).mono ?_; rintro e w4 ⟨rfl, hb⟩; have HD4 := Lib.hid (HD3.out.trans (hb.mono HD3.out.size)); clear hb)
    refine hK.out _ _ ⟨(HD4.out.cell (p := ⟨G, 2, none⟩) (Nat.lt_of_succ_lt HLt.out)).trans C2.out, (HD4.out.cell (p := ⟨G + 1, 2, none⟩) HLt.out).trans D2.out⟩ (fun h4 => ?_)
    clear hK K h2
    refine hd_take 6 (some 21) (.bool (decide ((wa : Int) < (wb : Int)))) rfl rfl (by kernel_rfl) (by kernel_rfl) (by kernel_rfl) (fun _ _ _ h => h) (Or.inl ⟨by rfl, fun w hw => by go_simp⟩) h4 ?_
    simp only [Act.put, List.setIfInBounds_toArray, List.set_cons_zero, List.set_cons_succ]
    refine hd_take 7 (some 4) (.bool (decide ((wa : Int) < (wb : Int)))) rfl rfl (by kernel_rfl) (by kernel_rfl) (by kernel_rfl) (fun _ _ _ h => h) (Or.inl ⟨by rfl, fun w hw => by go_simp⟩) h4 ?_
    simp only [Act.put, List.setIfInBounds_toArray, List.set_cons_zero, List.set_cons_succ]
    refine wpAnyH_done (by kernel_rfl) ?_ _
    go_wp2_with fail
    go_ret
    exact ⟨by rw [HQ.out]; rfl, by rw [HG.out]; exact HB2.out.trans (HD4.out.mono (Nat.le_of_lt (Nat.lt_of_succ_lt HLt.out)))⟩
  · have HQ : Hid (decide (lt ⟨al, pr, pa, po, ap⟩ ⟨al', pr', pa', po', ap'⟩) = decide (pr < pr')) := Lib.hid (by
      rw [decide_eq_decide, HM.out]
      omega)
    have e1 : (pr != pr') = true := by rw [bne_iff_ne]; exact hp
    obtain ⟨b, hb⟩ : ∃ b, decide (pr < pr') = b := ⟨_, rfl⟩
    rw [hb] at HQ
    clear HM hp
    go_wp2_with fail
    go_ret
    exact ⟨by rw [HQ.out]; rfl, by rw [HG.out]; exact HB2.out⟩
end Go.Proofs.YtlpondbcnfaggaaGreatDoor.Tr

/-
  Contract of hagioscoperef18's Counts over this seat's translation: it answers what countB says. No condition beyond the texts' lengths.
-/
namespace Go.Proofs.YtlpondbcnfaggaaGreatDoor.Tr
open Go.RowKit Go.Proofs.YtlpondbcnfaggaaGreatDoor.Wd Go.Proofs.YtlpondbcnfaggaaGreatDoor.Asc Go.Proofs.YtlpondbcnfaggaaGreatDoor.Tx Go.Proofs.YtlpondbcnfaggaaGreatDoor.St

set_option linter.unusedSimpArgs false in
set_option maxRecDepth 100000 in
set_option maxHeartbeats 8000000 in
theorem rcounts_any (r : Ru) (h : ByteArray) (port : Int) (A : Option Addr) (n c : Nat) (ss : List ByteArray) (w : World) (h1 : r.pa.length ≤ 1000000) (h2 : h.size ≤ 1000000) (hs : SrcS w A ss) (hn : ss.length = n) (hm : n ≤ 1000000) :
    Calls Tryz.prog 46 #[.agg (ruC r), .string h, .int .i64 port, .slice A n c] w fun e w' => e = .returned (.bool (countB r (bs h) port (ss.map bs))) ∧ Below w.heap.size w w' := by
  obtain ⟨al, pr, pa, po, ap⟩ := r
  obtain ⟨PA, hPA⟩ : ∃ A, str pa = A := ⟨_, rfl⟩
  obtain ⟨AP, hAP⟩ : ∃ A, str ap = A := ⟨_, rfl⟩
  have hpa : bs PA = pa := by rw [← hPA, bs_str]
  have hap : bs AP = ap := by rw [← hAP, bs_str]
  have z1 : PA.size ≤ 2147483640 := by rw [← bs_length, hpa]; exact Nat.le_trans h1 (by decide)
  obtain ⟨m, hmm⟩ : ∃ m, matchB (bs PA) (bs h) = m := ⟨_, rfl⟩
  have HMt := Lib.hid (fun w => rmatch_any PA h w z1 (Nat.le_trans h2 (by decide)))
  rw [hmm] at HMt
  obtain ⟨b0, hb0⟩ : ∃ b, decide (bs AP = []) = b := ⟨_, rfl⟩
  obtain ⟨z0, hz0⟩ : ∃ b, decide (po = 0) = b := ⟨_, rfl⟩
  obtain ⟨zp, hzp⟩ : ∃ b, decide (po = port) = b := ⟨_, rfl⟩
  have HC : Hid (countB ⟨al, pr, pa, po, ap⟩ (bs h) port (ss.map bs) = (m && (b0 || anyS AP ss) && (z0 || zp))) := Lib.hid (by
    unfold countB
    simp only
    rw [← hpa, hmm, ← hap, hb0, anyS_map, hz0, hzp])
  have e4 := is_lit AP []
  rw [hb0] at e4
  have e5 : (po == 0) = z0 := by rw [← hz0]; by_cases e : po = 0 <;> simp [e]
  have e6 : (po == port) = zp := by rw [← hzp]; by_cases e : po = port <;> simp [e]
  have hA : ruC ⟨al, pr, pa, po, ap⟩ = #[.bool al, .int .i64 pr, .string PA, .int .i64 po, .string AP] := by rw [← hPA, ← hAP]; rfl
  rw [hA]
  have HS := Lib.hid hs
  have HN := Lib.hid hn
  have E5 := Lib.hid e5
  have E6 := Lib.hid e6
  clear hA hPA hAP hpa hap h1 h2 z1 hmm hb0 hz0 hzp hs hn e5 e6
  go_enter Tryz.func46, Tryz.ntmps46
  go_upto_region 1 with fail
  obtain ⟨w2, hw2, hlt, hbel, c0, c1, c2, c3, c4⟩ := ru_box w al pr PA po AP
  rw [hw2]
  generalize hG : w.heap.size = G at *
  have HG := Lib.hid hG
  have HB2 := Lib.hid hbel
  have HLt := Lib.hid hlt
  have C2 := Lib.hid c2
  have C3 := Lib.hid c3
  have C4 := Lib.hid c4
  clear hw2 hbel hG hlt c0 c1 c2 c3
  go_wp2_with fail
  clear c4 e4
  go_loopw [9, 10] (fun x9 x10 wr => ∃ (k : Nat) (b : Bool) (ww : World), ww = wr ∧ k ≤ n ∧ x9 = .bool b ∧ x10 = .int .i64 (k : Nat) ∧ Hid (b = (b0 || anyS AP (ss.take k))) ∧ Hid (Below w2.heap.size w2 ww)) (fun _ x10 _ => n - (intOf x10).toNat)
  case atStart => exact ⟨0, b0, w2, rfl, Nat.zero_le _, rfl, rfl, Lib.hid (by simp [anyS]), Lib.hid (Below.refl _ _)⟩
  case round =>
    obtain ⟨k, b, ww, rfl, hk, rfl, rfl, HQ, HB⟩ := hrel
    have c4 : ww.cell? ⟨G, 4, none⟩ = some (.string AP) := (HB.out.cell (p := ⟨G, 4, none⟩) HLt.out).trans C4.out
    by_cases hlt : k < n
    · have hki : (k : Int) < (n : Int) := by omega
      obtain ⟨s, g, o, hsk, rfl, hgw, hc⟩ := HS.out.get (wr := ww) (k := k) (by rw [HN.out]; exact hlt) (by rw [HG.out]; exact HB2.out.trans (HB.out.mono (Nat.le_of_lt HLt.out)))
      have q := is_str s AP
      have HQ2 := Lib.hid (anyS_next (ap := AP) hsk)
      obtain ⟨d, hd⟩ : ∃ d, decide (bs s = bs AP) = d := ⟨_, rfl⟩
      rw [hd] at q HQ2
      clear hd hsk hgw
      cases b
      · go_wp2_with fail
        go_quiet (fail)
        all_goals (
          go_wp2_with fail
          go_roundw
          case rel => exact ⟨k + 1, d, _, rfl, by omega, rfl, by go_num, Lib.hid (by rw [HQ2.out, ← Bool.or_assoc, ← HQ.out]; rfl), Lib.hid (HB.out.trans ((below_drewN' _ _).mono HB.out.size))⟩
          case measure => simp [intOf]; omega)
      · go_wp2_with fail
        go_quiet (fail)
        all_goals (
          go_wp2_with fail
          go_roundw
          case rel => exact ⟨k + 1, true, _, rfl, by omega, rfl, by go_num, Lib.hid (by rw [HQ2.out, ← Bool.or_assoc, ← HQ.out]; rfl), Lib.hid (HB.out.trans ((below_drewN' _ _).mono HB.out.size))⟩
          case measure => simp [intOf]; omega)
    · have hki : ¬ (k : Int) < (n : Int) := by omega
      have HQ3 := Lib.hid (show b = (b0 || anyS AP ss) by rw [HQ.out, List.take_of_length_le (by rw [HN.out]; omega)])
      have c2 : ww.cell? ⟨G, 2, none⟩ = some (.string PA) := (HB.out.cell (p := ⟨G, 2, none⟩) HLt.out).trans C2.out
      clear c4 HQ
      go_wp2_with fail
      refine (HMt.out _).mono ?_
      rintro e w3 ⟨rfl, hb⟩
      have HB3 := Lib.hid (HB.out.trans (hb.mono HB.out.size))
      have c3 : w3.cell? ⟨G, 3, none⟩ = some (.int .i64 po) := (HB3.out.cell (p := ⟨G, 3, none⟩) HLt.out).trans C3.out
      clear hb c2 HB HMt
      have e5 := E5.out
      have e6 := E6.out
      have HF := Lib.hid (show Below w.heap.size w w3 by rw [HG.out]; exact HB2.out.trans (HB3.out.mono (Nat.le_of_lt HLt.out)))
      cases m
      · clear e5 e6
        go_wp2_with fail
        go_ret
        exact ⟨by rw [HC.out]; rfl, HF.out⟩
      · cases b
        · clear e5 e6
          go_wp2_with fail
          go_ret
          exact ⟨by rw [HC.out, ← HQ3.out]; rfl, HF.out⟩
        · cases z0
          · go_wp2_with fail
            go_ret
            exact ⟨by rw [HC.out, ← HQ3.out]; rfl, HF.out⟩
          · go_wp2_with fail
            go_ret
            exact ⟨by rw [HC.out, ← HQ3.out]; rfl, HF.out⟩
end Go.Proofs.YtlpondbcnfaggaaGreatDoor.Tr

/-
  The document's own trie over this seat's translation: as it lies in memory; contract of hagioscoperef18's Find: it answers what findS says. No condition beyond the texts' lengths.
-/
namespace Go.Proofs.YtlpondbcnfaggaaGreatDoor.Tr
open Go.RowKit Go.Proofs.YtlpondbcnfaggaaGreatDoor.Wd Go.Proofs.YtlpondbcnfaggaaGreatDoor.Asc Go.Proofs.YtlpondbcnfaggaaGreatDoor.Tx Go.Proofs.YtlpondbcnfaggaaGreatDoor.St

/-- the document's trie at block y, its row v of rules in blocks from B on -/
def RTv (w : World) (B y : Nat) (v : Value) (L : List Ru) : Prop := Blk w y 37 #[v] ∧ OwnU w B v L
theorem RTv.below {w w' : World} {B y : Nat} {v : Value} {L : List Ru} (h : RTv w B y v L) (hb : Below w.heap.size w w') : RTv w' B y v L := ⟨h.1.below hb h.1.lt, h.2.below hb⟩
theorem RTv.lt {w : World} {B y : Nat} {v : Value} {L : List Ru} (h : RTv w B y v L) : y < w.heap.size := h.1.lt
theorem RTv.form {w : World} {B y : Nat} {v : Value} {L : List Ru} (h : RTv w B y v L) : ∃ A c, w.cell? ⟨y, 0, none⟩ = some (.slice A L.length c) ∧ SrcU w A L := by
  obtain ⟨h1, h2⟩ := h
  obtain ⟨A, c, rfl, _, h3⟩ := h2.src
  exact ⟨A, c, h1.cell 0, h3⟩
/-- two zero rules in blocks of their own -/
theorem zero_two (w : World) : ∃ w2, (w.alloc (.cells zU 23)).alloc (.cells zU 23) = w2 ∧ Blk w2 w.heap.size 23 (ruC Ru.zero) ∧ Blk w2 (w.heap.size + 1) 23 (ruC Ru.zero) ∧ Below w.heap.size w w2 := by
  have b1 := (ru_zero w).1
  have b2 := (ru_zero (w.alloc (.cells zU 23))).1
  have l2 := (ru_zero (w.alloc (.cells zU 23))).2
  have l1 := (ru_zero w).2
  have b3 := b1.below l2 b1.lt
  rw [alloc_size] at b2
  exact ⟨_, rfl, b3, b2, l1.trans (l2.mono l1.size)⟩
theorem best_next {C : Ru → Bool} {L : List Ru} {k : Nat} {r : Ru} (h : L[k]? = some r) (o : Option (Ru × Nat)) :
    bestS C (L.drop k) k o = bestS C (L.drop (k + 1)) (k + 1) (if C r = true ∧ (∀ x ∈ o, lt x.1 r) then some (r, k) else o) := by
  obtain ⟨hl, he⟩ := List.getElem?_eq_some_iff.1 h
  rw [List.drop_eq_getElem_cons hl, he]
  rfl
theorem range_blk {w : World} {g t : Nat} {C : Array Value} (h : Blk w g t C) : w.rangeAt g 0 C.toList := fun j v hv => by
  rw [h.cell, Nat.zero_add]
  simpa using hv
theorem _root_.Go.Proofs.YtlpondbcnfaggaaGreatDoor.Wd.Blk.far_row {w : World} {g k t : Nat} {C D : Array Value} (h : Blk w g t C) (hk : g ≠ k) : Blk (w.setRow k D) g t C := (setRow_far hk D).trans h
/-- what a round of Find keeps -/
structure FIn (w : World) (B y : Nat) (L : List Ru) (r : Ru) (ww : World) : Prop where
  res : Blk ww w.heap.size 23 (ruC Ru.zero)
  out : Blk ww (w.heap.size + 1) 23 (ruC r)
  bel : Below w.heap.size w ww
theorem FIn.on {w : World} {B y : Nat} {L : List Ru} {r : Ru} {ww w' : World} (h : FIn w B y L r ww) (hb : Below ww.heap.size ww w') : FIn w B y L r w' :=
  ⟨h.res.below hb h.res.lt, h.out.below hb h.out.lt, h.bel.trans (hb.mono h.bel.size)⟩
set_option linter.unusedSimpArgs false in
set_option maxRecDepth 100000 in
set_option maxHeartbeats 16000000 in
theorem rfind_any {B y : Nat} {L : List Ru} {v : Value} (w : World) (hT : RTv w B y v L) (hL : L.length ≤ 100000) (hz : ∀ r ∈ L, r.pa.length ≤ 1000000) (h : ByteArray) (port : Int) (A : Option Addr) (n c : Nat) (ss : List ByteArray) (hh : h.size ≤ 1000000) (hn : ss.length = n) (hm : n ≤ 1000000) (hs : SrcS w A ss) :
    Calls Tryz.prog 24 #[.pointer (some ⟨y, 0, none⟩), .string h, .int .i64 port, .slice A n c] w fun e w' => e = resF (findS L (bs h) port (ss.map bs)) ∧ Below w.heap.size w w' := by
  obtain ⟨A0, c0, hc0, hsL⟩ := hT.form
  obtain ⟨C, hC⟩ : ∃ C : Ru → Bool, (fun r => countB r (bs h) port (ss.map bs)) = C := ⟨_, rfl⟩
  have HC : Hid (∀ (r : Ru) (w' : World), r.pa.length ≤ 1000000 → Below w.heap.size w w' → Calls Tryz.prog 46 #[.agg (ruC r), .string h, .int .i64 port, .slice A n c] w' fun e w'' => e = .returned (.bool (C r)) ∧ Below w'.heap.size w' w'') := Lib.hid (fun r w' hr hb => by
    rw [← hC]
    exact rcounts_any r h port A n c ss w' hr hh (hs.below hb) hn hm)
  have HF : Hid (findS L (bs h) port (ss.map bs) = bestS C L 0 none) := Lib.hid (by unfold findS; rw [hC])
  obtain ⟨N, hN⟩ : ∃ N, L.length = N := ⟨_, rfl⟩
  rw [hN] at hc0 hL
  have HN := Lib.hid hN
  have HS := Lib.hid hsL
  have HC0 := Lib.hid hc0
  have HZ := Lib.hid hz
  have HY := Lib.hid hT.lt
  clear hT hz hs hn hm hh hC hsL hc0 hN
  go_enter Tryz.func24, Tryz.ntmps24
  go_upto_region 2 with fail
  obtain ⟨w2, hw2, hb1, hb2, hbel⟩ := zero_two w
  rw [hw2]
  have HI : Hid (FIn w B y L Ru.zero w2) := Lib.hid ⟨hb1, hb2, hbel⟩
  clear hw2 hb1 hb2 hbel
  go_wp2_with fail
  go_loopw [12, 13, 14] (fun x12 x13 x14 wr => ∃ (k : Nat) (o : Option (Ru × Nat)) (ww : World), ww = wr ∧ k ≤ N ∧ x12 = .int .i64 (bestI o : Nat) ∧ x13 = .bool o.isSome ∧ x14 = .int .i64 (k : Nat) ∧ Hid (bestS C L 0 none = bestS C (L.drop k) k o) ∧ Hid (FIn w B y L (bestR o) ww) ∧ Hid ((bestR o).pa.length ≤ 1000000)) (fun _ _ x14 _ => N - (intOf x14).toNat)
  case atStart => exact ⟨0, none, w2, rfl, Nat.zero_le _, rfl, rfl, rfl, Lib.hid rfl, HI, Lib.hid (Nat.zero_le _)⟩
  case round =>
    clear HI
    obtain ⟨k, o, ww, rfl, hk, rfl, rfl, rfl, HQ, HI, HP⟩ := hrel
    have hc0 : ww.cell? ⟨y, 0, none⟩ = some (.slice A0 N c0) := (HI.out.bel.cell (p := ⟨y, 0, none⟩) HY.out).trans HC0.out
    by_cases hlt : k < N
    · have hki : (k : Int) < (N : Int) := by omega
      obtain ⟨r, g, p, hr, rfl, hg, hra⟩ := HS.out.get (wr := ww) (k := k) (by rw [HN.out]; exact hlt) HI.out.bel
      have HRs := Lib.hid (show r.pa.length ≤ 1000000 from HZ.out r (List.mem_of_getElem? hr))
      have HQ2 := Lib.hid (HQ.out.trans (best_next (C := C) hr o))
      have HCr := Lib.hid (HC.out r ww HRs.out HI.out.bel)
      have HRA := Lib.hid (fun w' (hb : Below w.heap.size w w') => show RuAt w' g (p + k * 5) r from by
        obtain ⟨r', g', p', hr', hA', hg', hra'⟩ := HS.out.get (wr := w') (k := k) (by rw [HN.out]; exact hlt) hb
        rw [hr] at hr'
        injection hr' with hr'
        injection hA' with hA'
        injection hA' with e1 e2
        subst hr' e1 e2
        exact hra')
      have Hg := Lib.hid hg
      clear hr hg HQ
      obtain ⟨b, hb⟩ : ∃ b, C r = b := ⟨_, rfl⟩
      rw [hb] at HCr HQ2
      clear hb
      go_wp2_with (first | (refine go_ldr r hra (by rfl) rfl (by first | rfl | (go_simp; done)) ?_) | (go_at_call 46; refine HCr.out.mono ?_; rintro e w3 ⟨rfl, hb3⟩; have HI3 := Lib.hid (HI.out.on hb3); clear hb3))
      all_goals clear hra hc0 HCr HI
      have hc3 : w3.cell? ⟨y, 0, none⟩ = some (.slice (some ⟨g, p, none⟩) N c0) := (HI3.out.bel.cell (p := ⟨y, 0, none⟩) HY.out).trans HC0.out
      have HR3 := Lib.hid (HRA.out _ HI3.out.bel)
      cases b
      · have HQ3 := Lib.hid (HQ2.out.trans (by rw [if_neg (fun h => by cases h.1)]))
        clear hc3
        go_quiet (fail)
        all_goals (
          go_wp2_with fail
          go_roundw
          case rel => exact ⟨k + 1, o, _, rfl, by omega, rfl, rfl, by go_num, HQ3, Lib.hid (HI3.out.on (below_drewN' _ _)), HP⟩
          case measure => simp [intOf]; omega)
      · cases o with
        | none =>
          have HQ3 := Lib.hid (HQ2.out.trans (by rw [if_pos ⟨rfl, fun x h => by cases h⟩]))
          clear hc3
          refine wp_region_held_drew (S := fun _ => True) (by kernel_rfl) trivial (fun h0 => ?_)
          refine hd_take 0 (some 36) (.bool true) rfl rfl (by kernel_rfl) (by kernel_rfl) (by kernel_rfl) (fun _ _ _ h => h) (Or.inl ⟨by rfl, fun w hw => by go_simp⟩) h0 ?_
          simp only [Act.put, List.setIfInBounds_toArray, List.set_cons_zero, List.set_cons_succ]
          refine hd_take 1 (some 37) (.bool true) rfl rfl (by kernel_rfl) (by kernel_rfl) (by kernel_rfl) (fun _ _ _ h => h) (Or.inl ⟨by rfl, fun w hw => by go_simp⟩) h0 ?_
          simp only [Act.put, List.setIfInBounds_toArray, List.set_cons_zero, List.set_cons_succ]
          refine hd_take 2 (some 38) (.bool false) rfl rfl (by kernel_rfl) (by kernel_rfl) (by kernel_rfl) (fun _ _ _ h => h) (Or.inl ⟨by rfl, fun w hw => by go_simp⟩) h0 ?_
          simp only [Act.put, List.setIfInBounds_toArray, List.set_cons_zero, List.set_cons_succ]
          refine hd_take 3 (some 39) (.bool true) rfl rfl (by kernel_rfl) (by kernel_rfl) (by kernel_rfl) (fun _ _ _ h => h) (Or.inl ⟨by rfl, fun w hw => by go_simp⟩) h0 ?_
          simp only [Act.put, List.setIfInBounds_toArray, List.set_cons_zero, List.set_cons_succ]
          refine hd_take 4 (some 40) (.bool true) rfl rfl (by kernel_rfl) (by kernel_rfl) (by kernel_rfl) (fun _ _ _ h => h) (Or.inl ⟨by rfl, fun w hw => by go_simp⟩) h0 ?_
          simp only [Act.put, List.setIfInBounds_toArray, List.set_cons_zero, List.set_cons_succ]
          refine hd_take 5 (some 41) (undef) rfl rfl (by kernel_rfl) (by kernel_rfl) (by kernel_rfl) (fun _ _ _ h => h) (Or.inr ⟨by rfl, rfl⟩) h0 ?_
          simp only [Act.put, List.setIfInBounds_toArray, List.set_cons_zero, List.set_cons_succ]
          refine hd_take 6 (some 42) (undef) rfl rfl (by kernel_rfl) (by kernel_rfl) (by kernel_rfl) (fun _ _ _ h => h) (Or.inr ⟨by rfl, rfl⟩) h0 ?_
          simp only [Act.put, List.setIfInBounds_toArray, List.set_cons_zero, List.set_cons_succ]
          refine hd_take 7 (some 43) (undef) rfl rfl (by kernel_rfl) (by kernel_rfl) (by kernel_rfl) (fun _ _ _ h => h) (Or.inr ⟨by rfl, rfl⟩) h0 ?_
          simp only [Act.put, List.setIfInBounds_toArray, List.set_cons_zero, List.set_cons_succ]
          refine hd_take 8 (some 44) (undef) rfl rfl (by kernel_rfl) (by kernel_rfl) (by kernel_rfl) (fun _ _ _ h => h) (Or.inr ⟨by rfl, rfl⟩) h0 ?_
          simp only [Act.put, List.setIfInBounds_toArray, List.set_cons_zero, List.set_cons_succ]
          refine hd_take 9 (some 45) (undef) rfl rfl (by kernel_rfl) (by kernel_rfl) (by kernel_rfl) (fun _ _ _ h => h) (Or.inr ⟨by rfl, rfl⟩) h0 ?_
          simp only [Act.put, List.setIfInBounds_toArray, List.set_cons_zero, List.set_cons_succ]
          refine hd_take 10 (some 46) (undef) rfl rfl (by kernel_rfl) (by kernel_rfl) (by kernel_rfl) (fun _ _ _ h => h) (Or.inr ⟨by rfl, rfl⟩) h0 ?_
          simp only [Act.put, List.setIfInBounds_toArray, List.set_cons_zero, List.set_cons_succ]
          refine hd_take 11 (some 47) (undef) rfl rfl (by kernel_rfl) (by kernel_rfl) (by kernel_rfl) (fun _ _ _ h => h) (Or.inr ⟨by rfl, rfl⟩) h0 ?_
          simp only [Act.put, List.setIfInBounds_toArray, List.set_cons_zero, List.set_cons_succ]
          refine hd_take 12 (some 48) (undef) rfl rfl (by kernel_rfl) (by kernel_rfl) (by kernel_rfl) (fun _ _ _ h => h) (Or.inr ⟨by rfl, rfl⟩) h0 ?_
          simp only [Act.put, List.setIfInBounds_toArray, List.set_cons_zero, List.set_cons_succ]
          refine hd_take 13 (some 49) (undef) rfl rfl (by kernel_rfl) (by kernel_rfl) (by kernel_rfl) (fun _ _ _ h => h) (Or.inr ⟨by rfl, rfl⟩) h0 ?_
          simp only [Act.put, List.setIfInBounds_toArray, List.set_cons_zero, List.set_cons_succ]
          refine hd_take 14 (some 50) (.bool true) rfl rfl (by kernel_rfl) (by kernel_rfl) (by kernel_rfl) (fun _ _ _ h => h) (Or.inl ⟨by rfl, fun w hw => by go_simp⟩) h0 ?_
          simp only [Act.put, List.setIfInBounds_toArray, List.set_cons_zero, List.set_cons_succ]
          refine hd_take 15 (some 51) (.bool true) rfl rfl (by kernel_rfl) (by kernel_rfl) (by kernel_rfl) (fun _ _ _ h => h) (Or.inl ⟨by rfl, fun w hw => by go_simp⟩) h0 ?_
          simp only [Act.put, List.setIfInBounds_toArray, List.set_cons_zero, List.set_cons_succ]
          refine wpAnyH_done (by kernel_rfl) ?_ _
          have HI4 := Lib.hid (HI3.out.on (show Below w3.heap.size w3 w3.drew from (Below.refl _ _).drew))
          generalize w3.drew = w4 at *
          have hc4 : w4.cell? ⟨y, 0, none⟩ = some (.slice (some ⟨g, p, none⟩) N c0) := (HI4.out.bel.cell (p := ⟨y, 0, none⟩) HY.out).trans HC0.out
          have hr4 := HRA.out _ HI4.out.bel
          have b4 := HI4.out.out
          go_upto_region 10 with (first | (refine go_ldr r hr4 (by rfl) rfl (by first | rfl | (go_simp; done)) ?_) | (refine go_st 23 b4 infU (ruC_size _) (ruC_size _) (ruC_one _) rfl rfl rfl rfl ?_))
          have HI5 := Lib.hid (show FIn w B y L r (w4.setRow (w.heap.size + 1) (ruC r)) from ⟨HI4.out.res.far_row (by omega), setRow_blk b4, setRow_below HI4.out.bel b4 (by omega) _⟩)
          clear hc4 hr4 b4 HI4 HI3 HR3
          generalize w4.setRow (w.heap.size + 1) (ruC r) = w5 at *
          go_wp2_with fail
          go_roundw
          case rel => exact ⟨k + 1, some (r, k), _, rfl, by omega, rfl, rfl, by go_num, HQ3, HI5, HRs⟩
          case measure => simp [intOf]; omega
        | some x =>
          obtain ⟨q, qi⟩ := x
          have HP3 := Lib.hid (show q.pa.length ≤ 1000000 from HP.out)
          have HLs := Lib.hid (fun w => rless_any q r w HP3.out HRs.out)
          obtain ⟨d, hd⟩ : ∃ d, decide (lt q r) = d := ⟨_, rfl⟩
          rw [hd] at HLs
          have Hd := Lib.hid hd
          clear hd hc3
          have HSS := Lib.hid (fun (w' : World) (hI : FIn w B y L q w') => show w'.cell? ⟨y, 0, none⟩ = some (.slice (some ⟨g, p, none⟩) N c0) ∧ w'.rangeAt (w.heap.size + 1) 0 (ruC q).toList ∧ w'.rangeAt g (p + k * 5) (ruC r).toList from ⟨(hI.bel.cell (p := ⟨y, 0, none⟩) HY.out).trans HC0.out, range_blk hI.out, (HRA.out _ hI.bel).range⟩)
          have HI4 : Hid (FIn w B y L q w3.drew) := Lib.hid (HI3.out.on (show Below w3.heap.size w3 w3.drew from (Below.refl _ _).drew))
          clear HI3 HR3
          refine wp_region_held_drew (S := fun w' => w'.cell? ⟨y, 0, none⟩ = some (.slice (some ⟨g, p, none⟩) N c0) ∧ w'.rangeAt (w.heap.size + 1) 0 (ruC q).toList ∧ w'.rangeAt g (p + k * 5) (ruC r).toList) (by kernel_rfl) (HSS.out _ HI4.out) (fun h0 => ?_)
          refine hd_take 0 (some 36) (.bool true) rfl rfl (by kernel_rfl) (by kernel_rfl) (by kernel_rfl) (fun _ _ _ h => h) (Or.inl ⟨by rfl, fun w hw => by go_simp⟩) h0 ?_
          simp only [Act.put, List.setIfInBounds_toArray, List.set_cons_zero, List.set_cons_succ]
          refine hd_take 1 (some 37) (.bool true) rfl rfl (by kernel_rfl) (by kernel_rfl) (by kernel_rfl) (fun _ _ _ h => h) (Or.inl ⟨by rfl, fun w hw => by go_simp⟩) h0 ?_
          simp only [Act.put, List.setIfInBounds_toArray, List.set_cons_zero, List.set_cons_succ]
          refine hd_take 2 (some 38) (.bool true) rfl rfl (by kernel_rfl) (by kernel_rfl) (by kernel_rfl) (fun _ _ _ h => h) (Or.inl ⟨by rfl, fun w hw => by go_simp⟩) h0 ?_
          simp only [Act.put, List.setIfInBounds_toArray, List.set_cons_zero, List.set_cons_succ]
          refine hd_take 3 (some 39) (.bool false) rfl rfl (by kernel_rfl) (by kernel_rfl) (by kernel_rfl) (fun _ _ _ h => h) (Or.inl ⟨by rfl, fun w hw => by go_simp⟩) h0 ?_
          simp only [Act.put, List.setIfInBounds_toArray, List.set_cons_zero, List.set_cons_succ]
          refine hd_take 4 (some 40) (.bool false) rfl rfl (by kernel_rfl) (by kernel_rfl) (by kernel_rfl) (fun _ _ _ h => h) (Or.inl ⟨by rfl, fun w hw => by go_simp⟩) h0 ?_
          simp only [Act.put, List.setIfInBounds_toArray, List.set_cons_zero, List.set_cons_succ]
          refine hd_take 5 (some 41) (.agg (ruC q)) rfl rfl (by kernel_rfl) (by kernel_rfl) (by kernel_rfl) (fun _ _ _ h => h) (yieldsIf_load_mid (by rfl) _ _ rfl (w.heap.size + 1) 0 rfl (ruC q).toList _ (fun _ h => h.2.1) undU rfl (ruU_len q)) h0 ?_
          simp only [Act.put, List.setIfInBounds_toArray, List.set_cons_zero, List.set_cons_succ]
          refine hd_take 6 (some 42) (.pointer (some ⟨y, 0, none⟩)) rfl rfl (by kernel_rfl) (by kernel_rfl) (by kernel_rfl) (fun _ _ _ h => h) (Or.inl ⟨by rfl, fun w hw => by go_simp⟩) h0 ?_
          simp only [Act.put, List.setIfInBounds_toArray, List.set_cons_zero, List.set_cons_succ]
          refine hd_take 7 (some 43) (.pointer (some ⟨y, 0, none⟩)) rfl rfl (by kernel_rfl) (by kernel_rfl) (by kernel_rfl) (fun _ _ _ h => h) (Or.inl ⟨by rfl, fun w hw => by go_simp⟩) h0 ?_
          simp only [Act.put, List.setIfInBounds_toArray, List.set_cons_zero, List.set_cons_succ]
          refine hd_take 8 (some 44) (.pointer (some ⟨y, 0, none⟩)) rfl rfl (by kernel_rfl) (by kernel_rfl) (by kernel_rfl) (fun _ _ _ h => h) (Or.inl ⟨by rfl, fun w hw => by go_simp⟩) h0 ?_
          simp only [Act.put, List.setIfInBounds_toArray, List.set_cons_zero, List.set_cons_succ]
          refine hd_take 9 (some 45) (.slice (some ⟨g, p, none⟩) N c0) rfl rfl (by kernel_rfl) (by kernel_rfl) (by kernel_rfl) (fun _ _ _ h => h) (Or.inl ⟨by rfl, fun w hw => by have h9 := hw.1; go_simp⟩) h0 ?_
          simp only [Act.put, List.setIfInBounds_toArray, List.set_cons_zero, List.set_cons_succ]
          refine hd_take 10 (some 46) (.int .i64 (k : Int)) rfl rfl (by kernel_rfl) (by kernel_rfl) (by kernel_rfl) (fun _ _ _ h => h) (Or.inl ⟨by rfl, fun w hw => by go_simp⟩) h0 ?_
          simp only [Act.put, List.setIfInBounds_toArray, List.set_cons_zero, List.set_cons_succ]
          refine hd_take 11 (some 47) (.pointer (some ⟨g, p + k * 5, none⟩)) rfl rfl (by kernel_rfl) (by kernel_rfl) (by kernel_rfl) (fun _ _ _ h => h) (Or.inl ⟨by rfl, fun w hw => by go_simp <;> omega⟩) h0 ?_
          simp only [Act.put, List.setIfInBounds_toArray, List.set_cons_zero, List.set_cons_succ]
          refine hd_take 12 (some 48) (.agg (ruC r)) rfl rfl (by kernel_rfl) (by kernel_rfl) (by kernel_rfl) (fun _ _ _ h => h) (yieldsIf_load_mid (by rfl) _ _ rfl g (p + k * 5) rfl (ruC r).toList _ (fun _ h => h.2.2) undU rfl (ruU_len r)) h0 ?_
          simp only [Act.put, List.setIfInBounds_toArray, List.set_cons_zero, List.set_cons_succ]
          refine wpAnyH_ready (rs := [13]) (by kernel_rfl) (by simp) (AllReadyH.cons rfl (fun K hK => ?_) AllReadyH.nil)
          go_simp
          go_wp2_with (go_at_call 47; refine (HLs.out _).mono ?_; rintro e w5 ⟨rfl, hb5⟩; have HI5 := Lib.hid (HI4.out.on hb5); clear hb5)
          refine hK.out _ _ (HSS.out _ HI5.out) (fun h5 => ?_)
          clear hK K h0 HI4 HLs
          refine hd_take 14 (some 50) (.bool d) rfl rfl (by kernel_rfl) (by kernel_rfl) (by kernel_rfl) (fun _ _ _ h => h) (Or.inl ⟨by rfl, fun w hw => by go_simp⟩) h5 ?_
          simp only [Act.put, List.setIfInBounds_toArray, List.set_cons_zero, List.set_cons_succ]
          refine hd_take 15 (some 51) (.bool d) rfl rfl (by kernel_rfl) (by kernel_rfl) (by kernel_rfl) (fun _ _ _ h => h) (Or.inl ⟨by rfl, fun w hw => by go_simp⟩) h5 ?_
          simp only [Act.put, List.setIfInBounds_toArray, List.set_cons_zero, List.set_cons_succ]
          refine wpAnyH_done (by kernel_rfl) ?_ _
          clear h5
          cases d
          · have HQ3 := Lib.hid (HQ2.out.trans (by rw [if_neg (fun h => of_decide_eq_false Hd.out (h.2 (q, qi) rfl))]))
            go_wp2_with fail
            go_roundw
            case rel => exact ⟨k + 1, some (q, qi), _, rfl, by omega, rfl, rfl, by go_num, HQ3, HI5, HP⟩
            case measure => simp [intOf]; omega
          · have hT : C r = C r ∧ ∀ x ∈ some (q, qi), lt x.1 r := ⟨rfl, fun x h => by cases h; exact of_decide_eq_true Hd.out⟩
            have hq := HQ2.out
            rw [if_pos ⟨by first | rfl | trivial, hT.2⟩] at hq
            have HQ3 := Lib.hid hq
            clear hT hq
            have hc5 : w5.cell? ⟨y, 0, none⟩ = some (.slice (some ⟨g, p, none⟩) N c0) := (HI5.out.bel.cell (p := ⟨y, 0, none⟩) HY.out).trans HC0.out
            have hr5 := HRA.out _ HI5.out.bel
            have b5 := HI5.out.out
            go_upto_region 10 with (first | (refine go_ldr r hr5 (by rfl) rfl (by first | rfl | (go_simp; done)) ?_) | (refine go_st 23 b5 infU (ruC_size _) (ruC_size _) (ruC_one _) rfl rfl rfl rfl ?_))
            have HI7 := Lib.hid (show FIn w B y L r (w5.setRow (w.heap.size + 1) (ruC r)) from ⟨HI5.out.res.far_row (by omega), setRow_blk b5, setRow_below HI5.out.bel b5 (by omega) _⟩)
            clear hc5 hr5 b5 HI5
            generalize w5.setRow (w.heap.size + 1) (ruC r) = w6 at *
            go_wp2_with fail
            go_roundw
            case rel => exact ⟨k + 1, some (r, k), _, rfl, by omega, rfl, rfl, by go_num, HQ3, HI7, HRs⟩
            case measure => simp [intOf]; omega
    · have hki : ¬ (k : Int) < (N : Int) := by omega
      have HE := Lib.hid (show findS L (bs h) port (ss.map bs) = o from HF.out.trans (HQ.out.trans (by rw [List.drop_eq_nil_of_le (by rw [HN.out]; omega)]; rfl)))
      have b1 := HI.out.res
      have b2 := HI.out.out
      go_wp2_with (first | (refine go_ld (x := .tmp 11) 23 b2 undU rfl infU (ruC_size _) rfl rfl rfl ?_) | (refine go_st 23 b1 infU (ruC_size _) (ruC_size _) (ruC_one _) rfl rfl rfl rfl ?_))
      refine ret_three Tryz.results24 (setRow_blk b1) undU rfl infU (ruC_size _) rfl rfl rfl ?_ rfl
      exact ⟨by rw [HE.out, resF_is]; rfl, setRow_below HI.out.bel b1 (Nat.le_refl _) _⟩
end Go.Proofs.YtlpondbcnfaggaaGreatDoor.Tr
