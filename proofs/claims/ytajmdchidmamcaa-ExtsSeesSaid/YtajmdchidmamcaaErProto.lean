/-
  Contract of hagioscoperef10's Protocols over this seat's translation: it answers what protoS says.
-/
import Derived.Test.YtajmdchidmamcaaErName
import Derived.Test.YtajmdchidmamcaaExSee
namespace Go.Proofs.Ytajmdchidmamcaa.Ex
open Go.RowKit Go.Proofs.Ytajmdchidmamcaa.Wd Go.Proofs.Ytajmdchidmamcaa.Be Go.Proofs.Ytajmdchidmamcaa.He Go.Proofs.Ytajmdchidmamcaa.Ro

theorem proto_form {b : List UInt8} (h : (readS proO 2 b).2 = false) : protoS b = ([], 3) := by rw [protoS, h]; rfl
theorem proto_void {b : List UInt8} (h : [] ∈ (readS proO 2 b).1) : protoS b = ([], 3) := by
  have hc : (readS proO 2 b).1.contains [] = true := List.contains_iff_mem.2 h
  rw [protoS, hc]
  simp
theorem proto_ok {b : List UInt8} {l : List (List UInt8)} (h : readS proO 2 b = (l, true)) (hn : [] ∉ l) : protoS b = (l, 0) := by
  have hc : l.contains [] = false := by rw [Bool.eq_false_iff, Ne, List.contains_iff_mem]; exact hn
  rw [protoS, h]
  simp [hn]

/-- where the document's Protocols is -/
structure RpAt (B r : Nat) (w : World) (ys : List UInt8) (v : Value) (st : Option (List UInt8)) (wr : World) : Prop where
  rd : Rq B wr r st
  all : ∃ l f, OwnE wr elS (r + 1) v l ∧ leftS st < f ∧ itemsS proO ys = (l ++ (itemsF proO f st).1, (itemsF proO f st).2) ∧ [] ∉ l ∧ (l = [] → st = some ys) ∧ l.length + leftS st ≤ 65535
  some_ : ∃ rest, st = some rest
  bel : Below w.heap.size w wr
  far : w.heap.size ≤ r

set_option maxRecDepth 100000 in
set_option maxHeartbeats 2000000 in
theorem rproto_any (A : Option Addr) (n c : Nat) (xs : List UInt8) (w : World) (hs : Src w A n xs) (hn : n ≤ 100000) (hnc : n ≤ c) (hc : c ≤ 9223372036854775807) :
    Calls Try.prog 13 #[.slice A n c] w fun e w' => ∃ v, e = .returned (.tuple #[v, .int .i64 (protoS xs).2]) ∧ RelP w' w.heap.size v (protoS xs).1 ∧ Below w.heap.size w w' := by
  have H0 := Lib.hid (Rq.new hs hn hnc hc rfl)
  have HB0 := Lib.hid ((Below.refl w.heap.size w).alloc (Nat.le_refl _) (.cells #[.slice A n c, .int .i64 0, .bool false] 66))
  have hsm := vec_small (some xs)
  clear hs
  go_enter Try.func13, Try.ntmps13
  go_wp2_with fail
  refine (qvec_any H0.out 2).mono ?_
  rintro e w1 ⟨v1, rfl, hv1, hr1, hg1⟩
  have HB1 := Lib.hid (HB0.out.grown hg1 HB0.out.size (fun j hj => by injection hj with hj; omega))
  obtain ⟨q, hq⟩ : ∃ q, vecS (some xs) 2 = q := ⟨_, rfl⟩
  have HQ := Lib.hid hq
  rw [hq] at hv1 hr1 hsm
  clear hq
  obtain ⟨ys, st1⟩ := q
  simp only at hv1 hr1 hsm
  obtain ⟨A2, c2, rfl, h2, h3, hs2⟩ := Sq.cap hv1
  have HL := Lib.hid (Rq.new hs2 (by omega) h2 h3 rfl)
  have HR1 := Lib.hid (hr1.below ((Below.refl w1.heap.size w1).alloc (Nat.le_refl _) (.cells #[.slice A2 ys.length c2, .int .i64 0, .bool false] 66)))
  have HB2 := Lib.hid (HB1.out.alloc HB1.out.size (.cells #[.slice A2 ys.length c2, .int .i64 0, .bool false] 66))
  have hsz1 := HB1.out.size
  clear hv1 hr1 hg1 hs2 H0 HB0 HB1
  have hoff := HR1.out.bad
  cases st1 with
  | none =>
    have hoff' : (w1.alloc (.cells #[.slice A2 ys.length c2, .int .i64 0, .bool false] 66)).cell? ⟨w.heap.size, 2, none⟩ = some (.bool true) := hoff
    have HF := Lib.hid (show protoS xs = ([], 3) from proto_form (read_bad (by rw [HQ.out]; rfl)))
    clear hoff
    go_wp2_with fail
    go_ret2
    rw [HF.out]
    exact ⟨_, rfl, ⟨OwnE.nil _ _ _, Nat.zero_le _⟩, HB2.out⟩
  | some rest =>
    have hoff' : (w1.alloc (.cells #[.slice A2 ys.length c2, .int .i64 0, .bool false] 66)).cell? ⟨w.heap.size, 2, none⟩ = some (.bool false) := hoff
    clear hoff
    go_upto_region 3 with fail
    generalize w1.alloc (.cells #[.slice A2 ys.length c2, .int .i64 0, .bool false] 66) = w2 at *
    generalize w1.heap.size = y at *
    go_wp2_with fail
    refine (qleft_any HR1.out).mono ?_
    rintro e w3 ⟨rfl, k3, rfl⟩
    have hd3 := drewN_below w2 k3
    have HB3 := Lib.hid (HB2.out.trans (hd3.mono HB2.out.size))
    have HL3 := Lib.hid (HL.out.below hd3)
    clear HB2 HL HR1 hd3 hoff'
    generalize w2.drewN k3 = w3 at *
    by_cases hr0 : rest.length = 0
    · have hrest : rest = [] := List.eq_nil_of_length_eq_zero hr0
      subst hrest
      have HD := Lib.hid (show doneS (vecS (some xs) 2).2 = true by rw [HQ.out]; rfl)
      have HY := Lib.hid (show (vecS (some xs) 2).1 = ys by rw [HQ.out])
      clear hr0
      have hl0 : ((leftS (some []) : Nat) : Int) = 0 := rfl
      rw [hl0]
      go_wp2_with fail
      refine (qleft_any HL3.out).mono ?_
      rintro e w4 ⟨rfl, k4, rfl⟩
      have hd4 := drewN_below w3 k4
      have HB4 := Lib.hid (HB3.out.trans (hd4.mono HB3.out.size))
      have HL4 := Lib.hid (HL3.out.below hd4)
      clear HB3 HL3 hd4
      generalize w3.drewN k4 = w4 at *
      have hly : leftS (some ys) = ys.length := rfl
      rw [hly]
      by_cases hy0 : ys.length = 0
      · have hye : ys = [] := List.eq_nil_of_length_eq_zero hy0
        have HF := Lib.hid (show protoS xs = ([], 3) from proto_form (read_empty (by rw [HY.out]; exact hye)))
        rw [hy0]
        go_wp2_with fail
        go_ret2
        rw [HF.out]
        exact ⟨_, rfl, ⟨OwnE.nil _ _ _, Nat.zero_le _⟩, HB4.out⟩
      · have hyb : ((ys.length : Int) == 0) = false := beq_eq_false_iff_ne.2 (by omega)
        have hfar := HL4.out.far
        have H0 : Hid (RpAt y y w ys (.slice none 0 0) (some ys) w4) := Lib.hid ⟨HL4.out, ⟨[], ys.length + 1, OwnE.nil _ _ _, by show ys.length < _; omega, rfl, by simp, fun _ => rfl, by show 0 + ys.length ≤ _; omega⟩, ⟨ys, rfl⟩, HB4.out, by omega⟩
        have Hne := Lib.hid (show ys ≠ [] from fun h => hy0 (by rw [h]; rfl))
        obtain ⟨m, hm⟩ : ∃ m, ys.length = m := ⟨_, rfl⟩
        rw [hm] at hyb ⊢
        clear HB4 HL4 hy0 hly hm hfar
        go_wp2_with fail
        clear HQ
        go_loopw [6] (fun a wr => ∃ (st : Option (List UInt8)), Hid (RpAt y y w ys a st wr)) (fun _ wr => qlen wr y)
        case atStart => exact ⟨some ys, H0⟩
        case round =>
          clear H0
          obtain ⟨st, HN⟩ := hrel
          obtain ⟨rest, rfl⟩ := HN.out.some_
          go_wp2_with fail
          refine (qleft_any HN.out.rd).mono ?_
          rintro e w5 ⟨rfl, k5, rfl⟩
          have hd5 := drewN_below wr k5
          have HR5 := Lib.hid (HN.out.rd.below hd5)
          have HB5 := Lib.hid (HN.out.bel.trans (hd5.mono HN.out.bel.size))
          have hlr : leftS (some rest) = rest.length := rfl
          rw [hlr]
          have HQl := Lib.hid (Rq.qlen HN.out.rd)
          obtain ⟨l, f, hOw, hf, hall, hnl, hne, hlen⟩ := HN.out.all
          have HO5 := Lib.hid (hOw.below hd5)
          have hfar := HN.out.far
          clear hd5 hOw HN
          generalize wr.drewN k5 = w5 at *
          by_cases h0 : 0 < rest.length
          · have h0i : (0 : Int) < (rest.length : Int) := by omega
            have HL0 := Lib.hid (show 0 < leftS (some rest) from h0)
            obtain ⟨q, hq⟩ : ∃ q, rest.length = q := ⟨_, rfl⟩
            rw [hq] at HQl h0i ⊢
            have HQ := Lib.hid hq
            clear hq hlr h0
            have HK := Lib.hid (show leftS (proO (some rest)).2 < q by have := proO_less _ HL0.out; have := HQ.out; show _ < q; rw [← this]; assumption)
            have hvs := vec_small1 (some rest)
            obtain ⟨f', rfl⟩ : ∃ f', f = f' + 1 := ⟨f - 1, by omega⟩
            have HA : Hid (itemsS proO ys = ((l ++ [(proO (some rest)).1]) ++ (itemsF proO f' (proO (some rest)).2).1, (itemsF proO f' (proO (some rest)).2).2)) := by
              rw [hall, itemsF_step HL0.out, List.append_assoc]; rfl
            have HT := Lib.hid (show proO (some rest) = vecS (some rest) 1 from rfl)
            have HLe := Lib.hid hlen
            have HFf := Lib.hid hf
            have HNl := Lib.hid hnl
            have hl65 : l.length ≤ 65535 := by omega
            clear hall hlen hf hne HL0 hnl
            go_wp2_with fail
            refine (qvec_any HR5.out 1).mono ?_
            rintro e w7 ⟨v7, rfl, hv7, hr7, hg7⟩
            obtain ⟨cs, hblk⟩ := HR5.out.blk
            have HO7 := Lib.hid (HO5.out.off hg7 (OffT.of_blk hblk (by decide)))
            generalize vecS (some rest) 1 = z at *
            obtain ⟨x, st'⟩ := z
            simp only at hv7 hr7 hvs
            obtain ⟨A7, c7, rfl, _, _, hs7⟩ := Sq.cap hv7
            have hcv := con8 (c := c7) hs7
            have hoff := hr7.bad
            have HR7 := Lib.hid hr7
            have HB7 := Lib.hid (HB5.out.grown hg7 HB5.out.size (fun j hj => by injection hj with hj; omega))
            clear hv7 hr7 hg7 hs7 HR5 HB5 HO5 hblk
            rw [HT.out] at HA HK
            simp only at HA HK
            cases st' with
            | none =>
              have hoff' : w7.cell? ⟨y, 2, none⟩ = some (.bool true) := hoff
              have HF := Lib.hid (show protoS xs = ([], 3) from proto_form (read_off (by rw [HY.out, HA.out, itemsF_none])))
              clear hoff hcv
              go_wp2_with fail
              go_ret2
              rw [HF.out]
              exact ⟨_, rfl, ⟨OwnE.nil _ _ _, Nat.zero_le _⟩, HB7.out⟩
            | some rest' =>
              have hoff' : w7.cell? ⟨y, 2, none⟩ = some (.bool false) := hoff
              clear hoff
              have hk' : rest'.length < q := HK.out
              clear HT
              by_cases h1 : x.length = 0
              · have hxe : x = [] := List.eq_nil_of_length_eq_zero h1
                have hb : ((x.length : Int) == 0) = true := by simp [hxe]
                have HF := Lib.hid (show protoS xs = ([], 3) from proto_void (by
                  show [] ∈ (itemsS proO (vecS (some xs) 2).1).1
                  rw [HY.out, HA.out, hxe]
                  simp))
                obtain ⟨m1, hm1⟩ : ∃ m, x.length = m := ⟨_, rfl⟩
                rw [hm1] at hb ⊢
                clear hcv h1 hm1 hxe
                go_wp2_with fail
                go_ret2
                rw [HF.out]
                exact ⟨_, rfl, ⟨OwnE.nil _ _ _, Nat.zero_le _⟩, HB7.out⟩
              · have hb : ((x.length : Int) == 0) = false := beq_eq_false_iff_ne.2 (by omega)
                have Hx := Lib.hid (show x ≠ [] from fun h => h1 (by rw [h]; rfl))
                clear h1
                have hC : (#[.string ⟨x.toArray⟩] : Array Value) = (Ro.flat elS [x]).toArray := by rw [Ro.flat_one]; rfl
                have HSr := Lib.hid (SrcE.new fineS w7 [x] #[.string ⟨x.toArray⟩] hC 9)
                have HOa := Lib.hid (HO7.out.alloc (.cells #[.string ⟨x.toArray⟩] 9))
                have HGe := Lib.hid (OwnE.ge HOa.out)
                have hlt7 : y < w7.heap.size := by obtain ⟨cs, hb⟩ := HR7.out.blk; exact hb.lt
                have HBa := Lib.hid (HB7.out.alloc HB7.out.size (.cells #[.string ⟨x.toArray⟩] 9))
                have HRa := Lib.hid (HR7.out.below ((Below.refl w7.heap.size w7).alloc (Nat.le_refl _) (.cells #[.string ⟨x.toArray⟩] 9)))
                clear HB7 HR7 HO7 hC
                go_wp2_with (at_builtin; refine wpList_appE fineS rfl _ _ rfl (y + 1) _ l rfl (by exact HOa.out) _ 1 1 [x] rfl rfl (by simp) (by exact HSr.out) (by simp; omega) (by decide) (by simp; omega) ?_; intro v8 w8 ho8 hg8)
                have HB8 := Lib.hid (HBa.out.grown hg8.out (by simp; have := HBa.out.size; simp at this; omega) (fun j hj => by have := HGe.out j hj; omega))
                have HR8 := Lib.hid (HRa.out.off hg8.out (fun j hj => by have := HGe.out j hj; omega))
                have HN' := Lib.hid (show RpAt y y w ys v8 (some rest') w8 from ⟨HR8.out, ⟨l ++ [x], f', ho8.out, by have := HFf.out; have := HQ.out; show rest'.length < f'; have : leftS (some rest) = rest.length := rfl; omega, HA.out, fun h => by
                  rcases List.mem_append.1 h with h | h
                  · exact HNl.out h
                  · simp at h; exact Hx.out h, fun h => by simp at h, by have := HLe.out; have := HQ.out; have : leftS (some rest) = rest.length := rfl; rw [List.length_append]; show l.length + 1 + rest'.length ≤ _; omega⟩, ⟨_, rfl⟩, HB8.out, hfar⟩)
                clear hg8 HBa HRa HGe HOa HSr
                go_roundw
                case rel => exact ⟨some rest', HN'⟩
                case measure => rw [Rq.qlen HR8.out, HQl.out]; exact hk'
          · have hre : rest = [] := List.eq_nil_of_length_eq_zero (by omega)
            subst hre
            have hlne : l ≠ [] := fun h => by have := hne h; injection this with this; exact Hne.out this.symm
            have HE := Lib.hid (show protoS xs = (l, 0) from proto_ok (read_ok HD.out (by rw [HY.out, hall, itemsF_end rfl, List.append_nil]; rfl) hlne) hnl)
            have h0i : ¬ (0 : Int) < ((([] : List UInt8).length : Nat) : Int) := by simp
            have hl65 : l.length ≤ 65535 := by omega
            clear hall hne hlen hf hlr h0 hlne hnl
            go_wp2_with fail
            go_ret2
            rw [HE.out]
            exact ⟨_, rfl, ⟨HO5.out.lower (by omega), hl65⟩, HB5.out⟩
    · have HF := Lib.hid (show protoS xs = ([], 3) from proto_form (read_bad (by rw [HQ.out]; show rest.isEmpty = false; cases rest with
        | nil => exact absurd rfl hr0
        | cons a l => rfl)))
      have hl0 : leftS (some rest) = rest.length := rfl
      rw [hl0]
      have hri : (0 : Int) < (rest.length : Int) := by omega
      obtain ⟨m, hm⟩ : ∃ m, rest.length = m := ⟨_, rfl⟩
      rw [hm] at hri ⊢
      clear hm hl0 hr0
      go_wp2_with fail
      go_ret2
      rw [HF.out]
      exact ⟨_, rfl, ⟨OwnE.nil _ _ _, Nat.zero_le _⟩, HB3.out⟩
end Go.Proofs.Ytajmdchidmamcaa.Ex
