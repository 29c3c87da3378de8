/-
  Contract of package record's All over this seat's translation.
-/
import Derived.Test.YtgjgffiogknefaaRcTake
import Derived.LoopTactic
namespace Go.Proofs.Ytgjgffiogknefaa.Rc
open Go.RowKit Go.Proofs.Ytgjgffiogknefaa.Wd

theorem one_src (w : World) (X : Int) (c : UInt8) (h : X = (c.toNat : Int)) : Src (w.alloc (.cells #[.int .u8 X] 5)) (some ⟨w.heap.size, 0, none⟩) 1 [c] := by
  subst h
  exact Src.marked w _ _ _ [c] rfl
theorem take_one {xs : List UInt8} {k : Nat} {c : UInt8} (h : xs[k]? = some c) : xs.take (k + 1) = xs.take k ++ [c] := by rw [List.take_add_one, h]; rfl
theorem run_one {d : D} {xs : List UInt8} {k : Nat} {c : UInt8} (h : xs[k]? = some c) : runD d (xs.take (k + 1)) = stepD (runD d (xs.take k)) c := by rw [take_one h, runD_app]; rfl
theorem out_one {d : D} {xs : List UInt8} {k : Nat} {c : UInt8} (h : xs[k]? = some c) : outD d (xs.take (k + 1)) = outD d (xs.take k) ++ (if payD (runD d (xs.take k)) then [c] else []) := by
  rw [take_one h, outD_app, outD, outD, List.append_nil]
/-- behind All: the payloads, the place, the error -/
def AllPost (w : World) (xs : List UInt8) (e : Ending) (w' : World) : Prop :=
  ∃ v, e = .returned (.tuple #[v, .int .i64 (atI (atD (D.st 0) xs)), .int .i64 ((runD (D.st 0) xs).e : Int)]) ∧ Own w' w.heap.size v (outD (D.st 0) xs) ∧ Below w.heap.size w w'
theorem fault_at {xs : List UInt8} {k : Nat} {c : UInt8} (h : xs[k]? = some c) (h1 : (runD (D.st 0) (xs.take k)).e = 0) (h2 : (stepD (runD (D.st 0) (xs.take k)) c).e ≠ 0) :
    atI (atD (D.st 0) xs) = (k : Int) ∧ outD (D.st 0) xs = outD (D.st 0) (xs.take k) ∧ (runD (D.st 0) xs).e = (stepD (runD (D.st 0) (xs.take k)) c).e := by
  obtain ⟨p1, p2, p3⟩ := at_here (ys := xs.drop (k + 1)) h1 h2
  rw [← split_at h] at p1 p2 p3
  have hl := (List.getElem?_eq_some_iff.1 h).1
  refine ⟨?_, p2, p3⟩
  rw [p1, List.length_take, Nat.min_eq_left (by omega)]
  rfl

set_option maxRecDepth 100000 in
set_option maxHeartbeats 1000000 in
theorem all_any (w : World) (A : Option Addr) (n cap : Nat) (xs : List UInt8) (hs : Src w A n xs) (hn : n ≤ 1000000) :
    Calls Try.prog 15 #[.slice A n cap] w (AllPost w xs) := by
  have HS := Lib.hid hs
  have hnl := hs.1
  have HNL := Lib.hid hnl
  clear hs hnl
  unfold AllPost
  go_enter Try.func15, Try.ntmps15
  go_wp2_with fail
  refine (new_any w).mono ?_
  rintro e w1 ⟨rfl, hr1, hb1⟩
  have HR1 := Lib.hid hr1
  have hg1 := Blk.lt hr1
  obtain ⟨g, hg⟩ : ∃ g, g = w.heap.size := ⟨_, rfl⟩
  rw [← hg] at HR1 hg1
  rw [← hg]
  have HG := Lib.hid hg
  clear hr1 hg
  go_wp2_with fail
  go_loopw [6, 14] (fun o i wr => ∃ k : Nat, k ≤ n ∧ i = .int .i64 (k : Int) ∧ Hid (Own wr (g + 1) o (outD (D.st 0) (xs.take k))) ∧ Hid (Rd wr g (runD (D.st 0) (xs.take k))) ∧ Hid ((runD (D.st 0) (xs.take k)).e = 0) ∧ Hid (Below w.heap.size w wr)) (fun _ i _ => n - (intOf i).toNat)
  case atStart => exact ⟨0, Nat.zero_le _, rfl, ⟨rfl, .inl ⟨rfl, rfl⟩⟩, HR1, rfl, hb1⟩
  case round =>
    clear hb1 HR1 hg1
    obtain ⟨k, hk, rfl, HO, HR, HE, HB⟩ := hrel
    by_cases hlt : k < n
    · have hki : (k : Int) < (n : Int) := by omega
      obtain ⟨ad, rfl, hadb, hc⟩ := HS.out.2 (by omega)
      obtain ⟨c, hx⟩ : ∃ c, xs[k]? = some c := ⟨_, List.getElem?_eq_getElem (by have := HNL.out; omega)⟩
      have hcell : wr.cell? (ad.add k) = some (.int .u8 (c.toNat : Int)) := (HB.out.cell (by rw [block_of_add]; exact hadb)).trans (hc k c hx)
      have HX := Lib.hid hx
      clear hc hx
      go_wp2_with fail
      have hnn := runD_n (D.st 0) (xs.take k)
      refine (take_any HR.out (runD_ok (OkD.st 0) _) (by rw [List.length_take] at hnn; have : (D.st 0).n = 0 := rfl; omega) c).mono ?_
      rintro e w2 ⟨rfl, hr2, hb2⟩
      have HR2 := Lib.hid hr2
      have HB2 := Lib.hid (show Below w.heap.size w w2 from HB.out.trans (hb2.below (by simp [HG.out]) HB.out.size))
      have HO2 := Lib.hid (HO.out.but_ hb2 (by simp))
      have hgl : g + 1 ≤ w2.heap.size := Blk.lt hr2
      clear hr2 hb2 HR HB HO hcell hnn
      by_cases he : (stepD (runD (D.st 0) (xs.take k)) c).e = 0
      · have H1 := Lib.hid (show Rd w2 g (runD (D.st 0) (xs.take (k + 1))) from by rw [run_one HX.out]; exact HR2.out)
        have H2 := Lib.hid (show (runD (D.st 0) (xs.take (k + 1))).e = 0 from by rw [run_one HX.out]; exact he)
        rw [he]
        have H3 := Lib.hid (out_one (d := D.st 0) HX.out)
        clear he HR2
        cases hp : payD (runD (D.st 0) (xs.take k))
        · rw [hp] at H3
          go_wp2_with fail
          go_roundw
          case rel => exact ⟨k + 1, by omega, by go_num, Lib.hid (by rw [H3.out]; simpa using HO2.out), H1, H2, HB2⟩
          case measure => simp [intOf]; omega
        · rw [hp] at H3
          have HOa := Lib.hid (HO2.out.alloc (.cells #[.int .u8 (c.toNat : Int)] 5))
          have HSa := Lib.hid (one_src w2 (c.toNat : Int) c rfl)
          have HLen := Lib.hid (show (outD (D.st 0) (xs.take k)).length + 1 ≤ 140737488355328 from by
            have := outD_len (D.st 0) (xs.take k)
            rw [List.length_take] at this
            omega)
          have HBa := Lib.hid (show Below w.heap.size w (w2.alloc (.cells #[.int .u8 (c.toNat : Int)] 5)) from HB2.out.alloc (by exact HB2.out.size) _)
          have HRa := Lib.hid (show Rd (w2.alloc (.cells #[.int .u8 (c.toNat : Int)] 5)) g _ from Blk.alloc H1.out _)
          go_wp2_with (at_builtin; refine wpList_app rfl (.tmp 31) (.tmp 33) 22 rfl und8 inf8 (g + 1) _ _ rfl HOa.out _ 1 1 _ rfl HSa.out HLen.out (by simp; omega) ?_; intro v3 w3 HO3 hb3)
          go_roundw
          case rel => exact ⟨k + 1, by omega, by go_num, by rw [H3.out]; exact HO3.out, Blk.below HRa.out hb3 (Nat.lt_succ_self _), H2, HBa.out.trans (hb3.mono (by rw [← HG.out]; exact Nat.le_succ _))⟩
          case measure => simp [intOf]; omega
      · obtain ⟨f1, f2, f3⟩ := fault_at HX.out HE.out he
        have F1 := Lib.hid f1
        have F2 := Lib.hid f2
        have F3 := Lib.hid f3
        have hei : ((stepD (runD (D.st 0) (xs.take k)) c).e : Int) ≠ 0 := by omega
        clear f1 f2 f3 he HR2
        generalize (stepD (runD (D.st 0) (xs.take k)) c).e = ev at *
        generalize payD (runD (D.st 0) (xs.take k)) = pv at *
        go_wp2_with fail
        go_ret3
        rw [F1.out, F3.out, F2.out]
        exact ⟨_, rfl, HO2.out.lower (by rw [HG.out]; exact Nat.le_succ _), HB2.out⟩
    obtain rfl : k = n := by omega
    have ht : xs.take k = xs := List.take_of_length_le (by rw [HNL.out]; exact Nat.le_refl _)
    rw [ht] at HO HR HE
    have F1 := Lib.hid ((atD_none (d := D.st 0) xs rfl).2 HE.out)
    clear ht
    go_wp2_with fail
    go_ret3
    rw [F1.out, HE.out]
    exact ⟨_, rfl, HO.out.lower (by rw [HG.out]; exact Nat.le_succ _), HB.out⟩
end Go.Proofs.Ytgjgffiogknefaa.Rc
