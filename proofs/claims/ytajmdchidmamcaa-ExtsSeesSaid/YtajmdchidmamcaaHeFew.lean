/-
  law09's Few over this seat's translation: is a hello short?
-/
import Derived.Test.YtajmdchidmamcaaHeFind
import Derived.LoopTactic
namespace Go.Proofs.Ytajmdchidmamcaa.He
open Go.RowKit Go.Proofs.Ytajmdchidmamcaa.Wd Go.Proofs.Ytajmdchidmamcaa.Be

/-- what the extensions weigh -/
def xsum (l : List Xt) : Nat := (l.map fun x => 4 + x.n).sum
theorem xsum_snoc {l : List Xt} {k : Nat} {x : Xt} (h : l[k]? = some x) : xsum (l.take (k + 1)) = xsum (l.take k) + (4 + x.n) := by
  unfold xsum
  rw [List.take_add_one, h]
  simp
theorem xsum_le (l : List Xt) (hx : ∀ x ∈ l, x.n ≤ 140737488351232) : xsum l ≤ l.length * 140737488351236 := by
  unfold xsum
  induction l with
  | nil => simp
  | cons x l ih =>
    have := ih (fun y hy => hx y (by simp [hy]))
    have := hx x (by simp)
    simp only [List.map_cons, List.sum_cons, List.length_cons, Nat.add_mul, Nat.one_mul]
    omega
theorem xsum_take (l : List Xt) (k : Nat) : xsum (l.take k) ≤ xsum l := by
  have h : xsum l = xsum (l.take k) + xsum (l.drop k) := by
    unfold xsum
    rw [← List.sum_append, ← List.map_append, List.take_append_drop]
  omega
def weigh (H : Hv) : Nat := H.ses.length + 2 * H.cph.length + H.met.length + xsum H.xs
def fewH (H : Hv) : Bool := decide (H.xs.length ≤ 60) && decide (weigh H ≤ 5000)
theorem few_is {H : Hv} (h : fewH H = true) : H.xs.length ≤ 60 ∧ weigh H ≤ 5000 := by
  unfold fewH at h
  simpa using h

set_option maxRecDepth 100000 in
set_option maxHeartbeats 1000000 in
theorem few_any (H : Hv) (w : World) (hH : H.Ok w) :
    Calls Try.prog 24 #[.agg H.C] w fun e w' => e = .returned (.bool (fewH H)) ∧ Below w.heap.size w w' := by
  have HH := Lib.hid hH
  have hr := hH.rnd
  have hx1 := hH.x1
  have hs1 := hH.s1
  have hc1 := hH.c1
  have hm1 := hH.m1
  have HS := Lib.hid (show ∀ k, H.xs.length ≤ 60 → xsum (H.xs.take k) ≤ 8444249301074160 from fun k h60 => by
    have h1 := xsum_le (H.xs.take k) (fun x hx => by
      obtain ⟨i, hi⟩ := List.mem_iff_getElem?.1 (List.mem_of_mem_take hx)
      exact (hH.xs i x hi).1.small)
    have h2 : (H.xs.take k).length ≤ 60 := by rw [List.length_take]; omega
    have h3 := Nat.mul_le_mul_right 140737488351236 h2
    omega)
  have HF := Lib.hid (show fewH H = (decide (H.xs.length ≤ 60) && decide (((H.ses.length + 2 * H.cph.length + H.met.length + xsum (H.xs.take H.xs.length) : Nat) : Int) ≤ 5000)) by
    unfold fewH weigh
    rw [List.take_length]
    congr 1
    rw [decide_eq_decide]
    omega)
  clear hH
  go_enter Try.func24, Try.ntmps24
  go_upto_region 1 with fail
  have hb0 := Blk.new w 44 H.C
  have HB := Lib.hid ((Below.refl w.heap.size w).alloc (Nat.le_refl _) (.cells H.C 44))
  generalize w.alloc (.cells H.C 44) = w1 at *
  have cx := cell_xs hb0 hr
  have cs := cell_ses hb0 hr
  have cc := cell_cph hb0 hr
  have cm := cell_met hb0 hr
  clear hb0
  obtain ⟨n, hn⟩ : ∃ n, n = H.xs.length := ⟨_, rfl⟩
  rw [← hn] at cx hx1 HF HS
  have HN := Lib.hid hn
  clear hn
  generalize H.ses.length = s at *
  generalize H.cph.length = c at *
  generalize H.met.length = m at *
  go_upto_region 2 with fail
  clear cs cc cm
  go_wp2_with fail
  go_loop [3, 4] (fun t i => ∃ (k : Nat) (z : Int), k ≤ n ∧ i = .int .i64 (k : Int) ∧ t = .int .i64 z ∧ (n ≤ 60 → z = ((s + 2 * c + m + xsum (H.xs.take k) : Nat) : Int))) (fun _ i => n - (intOf i).toNat)
  case atStart =>
    refine ⟨0, _, Nat.zero_le _, rfl, rfl, fun _ => ?_⟩
    simp [xsum]
  case round =>
    obtain ⟨k, z, hk, rfl, rfl, hz⟩ := hrel
    have HZ := Lib.hid hz
    clear hz
    by_cases hlt : k < n
    · have hki : (k : Int) < (n : Int) := by omega
      obtain ⟨x, hx⟩ : ∃ x, H.xs[k]? = some x := ⟨_, List.getElem?_eq_getElem (by have := HN.out; omega)⟩
      obtain ⟨hok, g, o, hA, hgw, h0, h1⟩ := HH.out.xs k x hx
      rw [hA] at cx
      have hc1' := (HB.out.cell (p := ⟨g, _, none⟩) hgw).trans h1
      have HT := Lib.hid (xsum_snoc hx)
      have hsm := hok.small
      clear h0 h1 hx hok hA
      by_cases h60 : n ≤ 60
      · have hz := HZ.out h60
        have hs := HS.out k h60
        have HT2 := Lib.hid (show z + 4 + (x.n : Int) = ((s + 2 * c + m + xsum (H.xs.take (k + 1)) : Nat) : Int) by rw [HT.out, hz]; push_cast; omega)
        generalize xsum (H.xs.take k) = T at *
        clear HZ HT
        go_wp2_with fail
        go_round
        case rel => exact ⟨k + 1, _, by omega, by go_num, rfl, fun _ => by have := HT2.out; omega⟩
        case measure => simp [intOf]; omega
      · go_wp2_with fail
        go_round
        case rel => exact ⟨k + 1, _, by omega, by go_num, rfl, fun h => absurd h h60⟩
        case measure => simp [intOf]; omega
    · obtain rfl : k = n := by omega
      by_cases h60 : k ≤ 60
      · have hz := HZ.out h60
        have h60' : (k : Int) ≤ 60 := by omega
        by_cases h5 : z ≤ 5000
        · have HF2 := Lib.hid (show fewH H = true by rw [HF.out, decide_eq_true h60, ← hz, decide_eq_true h5]; rfl)
          clear HF hz HZ
          go_wp2_with fail
          go_ret
          rw [HF2.out]
          exact ⟨rfl, HB.out⟩
        · have HF2 := Lib.hid (show fewH H = false by rw [HF.out, ← hz, decide_eq_false h5]; simp)
          clear HF hz HZ
          go_wp2_with fail
          go_ret
          rw [HF2.out]
          exact ⟨rfl, HB.out⟩
      · have HF2 := Lib.hid (show fewH H = false by rw [HF.out, decide_eq_false h60]; rfl)
        have h60' : ¬ (k : Int) ≤ 60 := by omega
        clear HF HZ
        by_cases h5 : z ≤ 5000
        · go_wp2_with fail
          go_ret
          rw [HF2.out]
          exact ⟨rfl, HB.out⟩
        · go_wp2_with fail
          go_ret
          rw [HF2.out]
          exact ⟨rfl, HB.out⟩
end Go.Proofs.Ytajmdchidmamcaa.He
