/-
  Contracts of the document's own All and Frame of layer 7 (hagioscoperef07).
-/
import Derived.Test.YtgjgffiogknefaaRcRef
import Derived.Test.YtgjgffiogknefaaRcFrame
namespace Go.Proofs.Ytgjgffiogknefaa.Rc
open Go.RowKit Go.Proofs.Ytgjgffiogknefaa.Wd Go.Proofs.Ytgjgffiogknefaa.Be

set_option maxRecDepth 100000 in
set_option maxHeartbeats 1000000 in
theorem rall_any (w : World) (A : Option Addr) (n cap : Nat) (xs : List UInt8) (hs : Src w A n xs) (hn : n ≤ 1000000) :
    Calls Try.prog 16 #[.slice A n cap] w (AllPost w xs) := by
  have HS := Lib.hid hs
  have hnl := hs.1
  have HNL := Lib.hid hnl
  clear hs hnl
  unfold AllPost
  have HR1 := Lib.hid (Rr.new w)
  have HB1 := Lib.hid (show Below w.heap.size w (w.alloc (.cells #[.int .i64 0, .int .i64 0, .int .i64 0, .int .i64 0] 29)) from (Below.refl _ _).alloc (Nat.le_refl _) _)
  go_enter Try.func16, Try.ntmps16
  go_wp2_with fail
  generalize w.alloc (.cells #[.int .i64 0, .int .i64 0, .int .i64 0, .int .i64 0] 29) = w1 at *
  obtain ⟨g, hg⟩ : ∃ g, g = w.heap.size := ⟨_, rfl⟩
  rw [← hg] at HR1
  rw [← hg]
  have HG := Lib.hid hg
  clear hg
  go_loopw [5, 7] (fun o i wr => ∃ k : Nat, k ≤ n ∧ i = .int .i64 (k : Int) ∧ Hid (Own wr (g + 1) o (outD (D.st 0) (xs.take k))) ∧ Hid (Rr wr g (runD (D.st 0) (xs.take k))) ∧ Hid ((runD (D.st 0) (xs.take k)).e = 0) ∧ Hid (Below w.heap.size w wr)) (fun _ i _ => n - (intOf i).toNat)
  case atStart => exact ⟨0, Nat.zero_le _, rfl, ⟨rfl, .inl ⟨rfl, rfl⟩⟩, HR1, rfl, HB1⟩
  case round =>
    clear HB1 HR1
    obtain ⟨k, hk, rfl, HO, HR, HE, HB⟩ := hrel
    by_cases hlt : k < n
    · have hki : (k : Int) < (n : Int) := by omega
      obtain ⟨ad, rfl, hadb, hc⟩ := HS.out.2 (by omega)
      obtain ⟨c, hx⟩ : ∃ c, xs[k]? = some c := ⟨_, List.getElem?_eq_getElem (by have := HNL.out; omega)⟩
      have hcell : wr.cell? (ad.add k) = some (.int .u8 (c.toNat : Int)) := (HB.out.cell (by rw [block_of_add]; exact hadb)).trans (hc k c hx)
      have HX := Lib.hid hx
      have HCell := Lib.hid (fun w' (h : Below w.heap.size w w') => show w'.cell? (ad.add k) = some (.int .u8 (c.toNat : Int)) from (h.cell (by rw [block_of_add]; exact hadb)).trans (hc k c hx))
      clear hc hx
      go_wp2_with fail
      have hnn := runD_n (D.st 0) (xs.take k)
      refine (rtake_any HR.out (runD_ok (OkD.st 0) _) (by rw [List.length_take] at hnn; have : (D.st 0).n = 0 := rfl; omega)).mono ?_
      rintro e w2 ⟨rfl, hr2, hb2⟩
      have HR2 := Lib.hid hr2
      have HB2 := Lib.hid (show Below w.heap.size w w2 from HB.out.trans (hb2.below (by simp [HG.out]) HB.out.size))
      have HO2 := Lib.hid (HO.out.but_ hb2 (by simp))
      have hgl : g + 1 ≤ w2.heap.size := hr2.lt
      clear hr2 hb2 HR HB HO hcell hnn
      by_cases he : (stepD (runD (D.st 0) (xs.take k)) c).e = 0
      · have H1 := Lib.hid (show Rr w2 g (runD (D.st 0) (xs.take (k + 1))) from by rw [run_one HX.out]; exact HR2.out)
        have H2 := Lib.hid (show (runD (D.st 0) (xs.take (k + 1))).e = 0 from by rw [run_one HX.out]; exact he)
        rw [he]
        have H3 := Lib.hid (out_one (d := D.st 0) HX.out)
        clear he HR2
        cases hp : payD (runD (D.st 0) (xs.take k))
        · rw [hp] at H3
          go_wp2_with fail
          go_roundw
          case rel => exact ⟨k + 1, by omega, by go_num, Lib.hid (by rw [H3.out]; simpa using HO2.out), H1, H2, HB2⟩
          case measure => simp [intOf]; omega
        · rw [hp] at H3
          have hcell := HCell.out w2 HB2.out
          have HOa := Lib.hid (HO2.out.alloc (.cells #[.int .u8 (c.toNat : Int)] 5))
          have HSa := Lib.hid (one_src w2 (c.toNat : Int) c rfl)
          have HLen := Lib.hid (show (outD (D.st 0) (xs.take k)).length + 1 ≤ 140737488355328 from by
            have := outD_len (D.st 0) (xs.take k)
            rw [List.length_take] at this
            omega)
          have HBa := Lib.hid (show Below w.heap.size w (w2.alloc (.cells #[.int .u8 (c.toNat : Int)] 5)) from HB2.out.alloc (by exact HB2.out.size) _)
          have HRa := Lib.hid (show Rr (w2.alloc (.cells #[.int .u8 (c.toNat : Int)] 5)) g _ from H1.out.same ((But.refl [] w2).alloc _))
          go_wp2_with (at_builtin; refine wpList_app rfl (.tmp 33) (.tmp 38) 22 rfl und8 inf8 (g + 1) _ _ rfl HOa.out _ 1 1 _ rfl HSa.out HLen.out (by simp; omega) ?_; intro v3 w3 HO3 hb3)
          go_roundw
          case rel => exact ⟨k + 1, by omega, by go_num, by rw [H3.out]; exact HO3.out, Rr.below HRa.out hb3 (Nat.lt_succ_self _), H2, HBa.out.trans (hb3.mono (by rw [← HG.out]; exact Nat.le_succ _))⟩
          case measure => simp [intOf]; omega
      · obtain ⟨f1, f2, f3⟩ := fault_at HX.out HE.out he
        have F1 := Lib.hid f1
        have F2 := Lib.hid f2
        have F3 := Lib.hid f3
        have hei : ((stepD (runD (D.st 0) (xs.take k)) c).e : Int) ≠ 0 := by omega
        clear f1 f2 f3 he HR2
        generalize (stepD (runD (D.st 0) (xs.take k)) c).e = ev at *
        generalize payD (runD (D.st 0) (xs.take k)) = pv at *
        go_wp2_with fail
        go_ret3
        rw [F1.out, F3.out, F2.out]
        exact ⟨_, rfl, HO2.out.lower (by rw [HG.out]; exact Nat.le_succ _), HB2.out⟩
    obtain rfl : k = n := by omega
    have ht : xs.take k = xs := List.take_of_length_le (by rw [HNL.out]; exact Nat.le_refl _)
    rw [ht] at HO HR HE
    have F1 := Lib.hid ((atD_none (d := D.st 0) xs rfl).2 HE.out)
    clear ht
    go_wp2_with fail
    go_ret3
    rw [F1.out, HE.out]
    exact ⟨_, rfl, HO.out.lower (by rw [HG.out]; exact Nat.le_succ _), HB.out⟩

theorem size_minmax (size M : Int) (h : M = if (16384 : Int) < size then 16384 else size) : withI size 1 16384 = if (1 : Int) < M then M else 1 := by
  subst h
  unfold withI
  repeat' split
  all_goals omega
theorem hdr_src (w : World) (k : Nat) (h : k ≤ 16384) :
    Src (w.alloc (.cells #[.int .u8 22, .int .u8 3, .int .u8 1, .int .u8 ((k : Int) / 256), .int .u8 ((k : Int) % 256)] 5)) (some ⟨w.heap.size, 0, none⟩) 5 (hdrS k) := by
  have h1 : (k : Int) / 256 = ((UInt8.ofNat (k / 256)).toNat : Int) := by rw [UInt8.toNat_ofNat']; omega
  have h2 : (k : Int) % 256 = ((UInt8.ofNat (k % 256)).toNat : Int) := by rw [UInt8.toNat_ofNat']; omega
  rw [h1, h2]
  exact Src.marked w _ _ _ (hdrS k) rfl
theorem min_n (n t q h : Nat) (hh : h = min n (t + q)) : (h : Int) = if (t : Int) + (q : Int) < (n : Int) then (t : Int) + (q : Int) else (n : Int) := by
  split <;> omega
theorem frame_here (m q t n h j : Nat) (xs : List UInt8) (hl : xs.length = n) (hq : q = m + 1) (ht : t < n) (hh : h = min n (t + q)) (hj : h - t = j) :
    frameS m (xs.drop t) = hdrS j ++ ((xs.take h).drop t ++ frameS m (xs.drop (t + q))) := by
  have hne : xs.drop t ≠ [] := by
    intro e
    have := congrArg List.length e
    rw [List.length_drop, List.length_nil] at this
    omega
  have e2 : (xs.drop t).take (m + 1) = (xs.take h).drop t := by
    rw [List.drop_take]
    rcases Nat.le_total n (t + q) with h1 | h1
    · rw [List.take_of_length_le (by rw [List.length_drop]; omega), List.take_of_length_le (by rw [List.length_drop]; omega)]
    · have : h - t = m + 1 := by omega
      rw [this]
  rw [frameS_cons m _ hne, e2, List.drop_drop, List.length_drop, hl, hq, List.append_assoc]
  congr 2
  omega

set_option maxRecDepth 100000 in
set_option maxHeartbeats 1000000 in
theorem rframe_any (w : World) (A : Option Addr) (n cap : Nat) (xs : List UInt8) (size : Int) (hs : Src w A n xs) (hc : n ≤ cap) (hn : n ≤ 1000000) :
    Calls Try.prog 18 #[.slice A n cap, .int .i64 size] w fun e w' => ∃ v, e = .returned v ∧ Own w' w.heap.size v (frameS (sizeK size) xs) ∧ Below w.heap.size w w' := by
  obtain ⟨hq1, hq2⟩ := sizeK_eq size
  obtain ⟨M1, hM1⟩ : ∃ M : Int, M = if (16384 : Int) < size then 16384 else size := ⟨_, rfl⟩
  have HM1 := Lib.hid hM1
  have hM2 := size_minmax size M1 hM1
  rw [hq1] at hM2
  have hnl := hs.1
  have HS := Lib.hid hs
  have HNL := Lib.hid hnl
  generalize sizeK size = m at *
  have HF := Lib.hid (frameS_le m hq2 xs)
  obtain ⟨q, hq⟩ : ∃ q, q = m + 1 := ⟨_, rfl⟩
  have HQ := Lib.hid hq
  rw [← hq] at hM2 hq2
  have HM2 := Lib.hid hM2
  have hq0 : 1 ≤ q := by omega
  clear hs hnl hq1 hM1 hM2 hq
  go_enter Try.func18, Try.ntmps18
  go_wp2_with (first
    | (with_reducible refine wpList_min2 (some 10) rfl rfl _ _ _ rfl size 16384 M1 rfl rfl HM1.out ?_)
    | (with_reducible refine wpList_max2 (some 11) rfl rfl _ _ _ rfl 1 M1 (q : Int) rfl rfl HM2.out ?_))
  go_loopw [6, 7] (fun o i wr => ∃ (t : Nat) (out : List UInt8), i = .int .i64 (t : Int) ∧ t ≤ n + 16384 ∧ Hid (Own wr w.heap.size o out) ∧ Hid (frameS m xs = out ++ frameS m (xs.drop t)) ∧ Hid (Below w.heap.size w wr)) (fun _ i _ => n + 16384 - (intOf i).toNat)
  case atStart => exact ⟨0, [], rfl, by omega, ⟨rfl, .inl ⟨rfl, rfl⟩⟩, rfl, Below.refl _ _⟩
  case round =>
    obtain ⟨t, out, rfl, htn, HO, HE, HB⟩ := hrel
    by_cases hlt : t < n
    · have hti : (t : Int) < (n : Int) := by omega
      obtain ⟨h, hh⟩ : ∃ h, h = min n (t + q) := ⟨_, rfl⟩
      obtain ⟨j, hj⟩ : ∃ j, h - t = j := ⟨_, rfl⟩
      have HM3 := Lib.hid (min_n n t q h hh)
      have HC := Lib.hid (frame_here m q t n h j xs HNL.out HQ.out hlt hh hj)
      have hht : t ≤ h ∧ h ≤ n ∧ j ≤ 16384 := by omega
      have hsl := fun w' => slice_mid und8 siz8 A n cap w' t h (by omega) (by omega)
      have HJ := Lib.hid hj
      have HT := Lib.hid (show Src w (slid A cap t) j ((xs.take h).drop t) from by rw [← hj]; exact HS.out.cut hht.1 hht.2.1 hc)
      have HLo := Lib.hid (show out.length + (5 + j) ≤ 140737488355328 from by
        have h1 := HF.out
        rw [HE.out, HC.out, List.length_append, List.length_append, List.length_append, hdrS_length, List.length_drop, List.length_take, HNL.out] at h1
        omega)
      clear hh
      have HOa := Lib.hid (HO.out.alloc (.cells #[.int .u8 22, .int .u8 3, .int .u8 1, .int .u8 ((j : Int) / 256), .int .u8 ((j : Int) % 256)] 5))
      have HSa := Lib.hid (hdr_src wr j hht.2.2)
      have HBa := Lib.hid (show Below w.heap.size w (wr.alloc (.cells #[.int .u8 22, .int .u8 3, .int .u8 1, .int .u8 ((j : Int) / 256), .int .u8 ((j : Int) % 256)] 5)) from HB.out.alloc (by exact HB.out.size) _)
      have HL1 := Lib.hid (show out.length + 5 ≤ 140737488355328 from by have := HLo.out; omega)
      have HL2 := Lib.hid (show (out ++ hdrS j).length + j ≤ 140737488355328 from by have := HLo.out; rw [List.length_append, hdrS_length]; omega)
      clear HO HB
      go_wp2_with (first
        | (with_reducible refine wpList_min2 (some 26) rfl rfl _ _ _ rfl (n : Int) ((t : Int) + (q : Int)) (h : Int) rfl rfl HM3.out ?_)
        | (at_builtin; refine wpList_app rfl (.tmp 28) (.tmp 37) 22 rfl und8 inf8 w.heap.size _ out rfl HOa.out _ 5 5 _ rfl HSa.out HL1.out HBa.out.size ?_; intro v3 w3 HO3 hb3; have HB3 := Lib.hid (HBa.out.trans hb3); have HO3' := Lib.hid HO3; clear HO3 hb3)
        | (at_builtin; refine wpList_app rfl (.tmp 39) (.tmp 40) 22 rfl und8 inf8 w.heap.size _ _ rfl HO3'.out (slid A cap t) j (cap - t) _ rfl (HT.out.below HB3.out) HL2.out HB3.out.size ?_; intro v4 w4 HO4 hb4; have HB4 := Lib.hid (HB3.out.trans hb4)))
      go_roundw
      case rel => exact ⟨t + q, _, by go_num, by omega, HO4, Lib.hid (by rw [HE.out, HC.out]; simp), HB4⟩
      case measure => simp [intOf]; omega
    have hr : xs.drop t = [] := List.drop_eq_nil_of_le (by rw [HNL.out]; omega)
    rw [hr] at HE
    have HE2 := Lib.hid (show frameS m xs = out from by rw [HE.out, frameS_nil, List.append_nil])
    have hti : (n : Int) ≤ (t : Int) := by omega
    clear HE hr
    go_wp2_with fail
    go_ret
    exact ⟨_, rfl, by rw [HE2.out]; exact HO.out, HB.out⟩
end Go.Proofs.Ytgjgffiogknefaa.Rc
