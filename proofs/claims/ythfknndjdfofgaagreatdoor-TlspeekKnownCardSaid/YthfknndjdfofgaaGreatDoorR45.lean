/-
 Contract of package shake's Wrap over this seat's translation; what is wrapped, taken byte by byte (plain).
-/
import Derived.Test.YthfknndjdfofgaaGreatDoorR16
import Derived.Test.YthfknndjdfofgaaGreatDoorR01
import Derived.Test.YthfknndjdfofgaaGreatDoorR13
namespace Go.Proofs.YthfknndjdfofgaaGreatDoor.Sh
open Go.RowKit Go.Proofs.YthfknndjdfofgaaGreatDoor.Wd

def headS (n : Nat) : List UInt8 := [1, 0, UInt8.ofNat (n / 256), UInt8.ofNat (n % 256)]
def wrapS (xs : List UInt8) : List UInt8 := headS xs.length ++ xs
theorem wrapS_len (xs : List UInt8) : (wrapS xs).length = xs.length + 4 := by unfold wrapS headS; simp
theorem byte_nat (k : Nat) (h : k < 256) : (UInt8.ofNat k).toNat = k := by rw [UInt8.toNat_ofNat']; omega
theorem run_head (n : Nat) (h : n ≤ 16384) : runM M.st (headS n) = ⟨4, n, [], 0⟩ := by
 have e1 := byte_nat (n / 256) (by omega)
 have e2 := byte_nat (n % 256) (by omega)
 have s1 : stepM M.st 1 = ⟨1, 0, [], 0⟩ := rfl
 have s2 : stepM ⟨1, 0, [], 0⟩ 0 = ⟨2, 0, [], 0⟩ := by simp [stepM]
 have s3 : stepM ⟨2, 0, [], 0⟩ (UInt8.ofNat (n / 256)) = ⟨3, n / 256 * 256, [], 0⟩ := by
   unfold stepM
   simp only [e1]
   rw [if_neg (by simp), if_neg (by simp), if_neg (by simp), if_pos trivial, if_pos (by omega)]
 have s4 : stepM ⟨3, n / 256 * 256, [], 0⟩ (UInt8.ofNat (n % 256)) = ⟨4, n, [], 0⟩ := by
   unfold stepM
   simp only [e2]
   rw [show n / 256 * 256 + n % 256 = n from by omega, if_neg (by simp), if_neg (by simp), if_neg (by simp), if_neg (by simp), if_pos trivial, if_pos h]
 unfold headS
 rw [runM_cons, s1, runM_cons, s2, runM_cons, s3, runM_cons, s4, runM_nil]
theorem run_body (n : Nat) (b ys : List UInt8) (h : b.length + ys.length ≤ n) : runM ⟨4, n, b, 0⟩ ys = ⟨4, n, b ++ ys, 0⟩ := by
 induction ys generalizing b with
 | nil => rw [runM_nil, List.append_nil]
 | cons c cs ih =>
   rw [List.length_cons] at h
   rw [runM_cons, stepM_body rfl rfl (by show b.length < n; omega)]
   show runM ⟨4, n, b ++ [c], 0⟩ cs = _
   rw [ih (b ++ [c]) (by rw [List.length_append, List.length_cons, List.length_nil]; omega), List.append_assoc]
   rfl
theorem run_wrap (xs : List UInt8) (h : xs.length ≤ 16384) : runM M.st (wrapS xs) = ⟨4, xs.length, xs, 0⟩ := by
 unfold wrapS
 rw [runM_app, run_head _ h, run_body _ _ _ (by simp)]
 rfl
theorem run_ahead (xs : List UInt8) (h : xs.length ≤ 16384) (k : Nat) (hk : 4 ≤ k) : runM M.st ((wrapS xs).take k) = ⟨4, xs.length, xs.take (k - 4), 0⟩ := by
 unfold wrapS
 have e : (headS xs.length).length = 4 := rfl
 rw [List.take_append, List.take_of_length_le (by omega), e, runM_app, run_head _ h, run_body _ _ _ (by simp; omega)]
 rfl
theorem run_few (xs : List UInt8) (h : xs.length ≤ 16384) (k : Nat) (hk : k < 4) : (runM M.st ((wrapS xs).take k)).e = 0 ∧ (runM M.st ((wrapS xs).take k)).h = k := by
 have e : (wrapS xs).take k = (headS xs.length).take k := by
   unfold wrapS
   have e : (headS xs.length).length = 4 := rfl
   rw [List.take_append_of_le_length (by omega)]
 rw [e]
 have e1 := byte_nat (xs.length / 256) (by omega)
 obtain rfl | rfl | rfl | rfl : k = 0 ∨ k = 1 ∨ k = 2 ∨ k = 3 := by omega
 · exact ⟨rfl, rfl⟩
 · exact ⟨rfl, rfl⟩
 · exact ⟨rfl, rfl⟩
 · have s3 : stepM ⟨2, 0, [], 0⟩ (UInt8.ofNat (xs.length / 256)) = ⟨3, xs.length / 256 * 256, [], 0⟩ := by
     unfold stepM
     simp only [e1]
     rw [if_neg (by simp), if_neg (by simp), if_neg (by simp), if_pos trivial, if_pos (by omega)]
   show (stepM ⟨2, 0, [], 0⟩ (UInt8.ofNat (xs.length / 256))).e = 0 ∧ (stepM ⟨2, 0, [], 0⟩ (UInt8.ofNat (xs.length / 256))).h = 3
   rw [s3]
   exact ⟨rfl, rfl⟩
theorem wrap_at (xs : List UInt8) (h : xs.length ≤ 16384) (k : Nat) (hk : k ≤ xs.length + 4) :
   (runM M.st ((wrapS xs).take k)).e = 0 ∧ wholeM (runM M.st ((wrapS xs).take k)) = decide (k = xs.length + 4) ∧ bodyM (runM M.st ((wrapS xs).take k)) = if k = xs.length + 4 then xs else [] := by
 have ok := runM_ok OkM.st ((wrapS xs).take k)
 have hw : wholeM (runM M.st ((wrapS xs).take k)) = decide (k = xs.length + 4) := by
   rw [Bool.eq_iff_iff, whole_iff ok, decide_eq_true_iff]
   by_cases h4 : 4 ≤ k
   · rw [run_ahead xs h k h4]
     simp only [List.length_take]
     constructor
     · rintro ⟨-, -, h3⟩; omega
     · intro h3; exact ⟨trivial, trivial, by omega⟩
   · obtain ⟨f1, f2⟩ := run_few xs h k (by omega)
     rw [f1, f2]
     constructor
     · rintro ⟨-, h2, -⟩; omega
     · intro h3; omega
 refine ⟨?_, hw, ?_⟩
 · by_cases h4 : 4 ≤ k
   · rw [run_ahead xs h k h4]
   · exact (run_few xs h k (by omega)).1
 · unfold bodyM
   rw [hw]
   by_cases hl : k = xs.length + 4
   · rw [if_pos (decide_eq_true hl), if_pos hl, run_ahead xs h k (by omega)]
     show xs.take (k - 4) = xs
     rw [List.take_of_length_le (by omega)]
   · rw [if_neg (by simp [hl]), if_neg hl]

end Go.Proofs.YthfknndjdfofgaaGreatDoor.Sh

/-
 In plain words: framed bytes of a wrapped body are known by their last byte, whatever size the records have. No condition.
-/
namespace Go.Proofs.YthfknndjdfofgaaGreatDoor.Tp
open Go.Proofs.YthfknndjdfofgaaGreatDoor.Rc Go.Proofs.YthfknndjdfofgaaGreatDoor.Sh

theorem pay_of {d : D} {c : UInt8} {n : Nat} (h : stepD d c = D.st n) : payD d = true := by
 have ha : (stepD d c).a = 0 := by rw [h]; rfl
 have he : (stepD d c).e = 0 := by rw [h]; rfl
 obtain ⟨a, l, m, e⟩ := d
 unfold stepD at ha he
 unfold payD
 simp only at ha he ⊢
 by_cases h0 : e = 0
 · subst h0
   rw [if_neg (by simp)] at ha he
   by_cases a5 : 5 ≤ a
   · exact decide_eq_true ⟨rfl, a5⟩
   · exfalso
     obtain rfl | rfl | rfl | rfl | rfl : a = 0 ∨ a = 1 ∨ a = 2 ∨ a = 3 ∨ a = 4 := by omega
     · rw [if_pos rfl] at ha he
       split at ha
       · exact absurd ha (by simp)
       · rename_i h; rw [if_neg h] at he; exact absurd he (by simp)
     · rw [if_neg (by simp), if_pos rfl] at ha he
       split at ha <;> exact absurd ha (by simp)
     · rw [if_neg (by simp), if_neg (by simp), if_pos rfl] at ha he
       split at ha <;> exact absurd ha (by simp)
     · rw [if_neg (by simp), if_neg (by simp), if_neg (by simp), if_pos rfl] at ha he
       split at ha <;> exact absurd ha (by simp)
     · rw [if_neg (by simp), if_neg (by simp), if_neg (by simp), if_neg (by simp), if_pos rfl] at ha he
       split at ha <;> exact absurd ha (by simp)
 · rw [if_pos h0] at he
   exact absurd he h0
theorem framed_known (x : List UInt8) (hx : x.length ≤ 16384) (k : Nat) (hk : k + 1 ≤ 16384) :
   ∃ d m, allT (frameS k (wrapS x)) = if (lookS x).2.2 ≠ 0 then ⟨d, m, 2, (frameS k (wrapS x)).length, (lookS x).2.2, [], Ex.Sn.zero⟩ else ⟨d, m, 1, (frameS k (wrapS x)).length, 0, (lookS x).1, (lookS x).2.1⟩ := by
 have hwl := wrapS_len x
 obtain ⟨r1, r2, r3⟩ := run_frame k hk (wrapS x).length (wrapS x) 0 (Nat.le_refl _)
 obtain ⟨ys, hys⟩ : ∃ ys, frameS k (wrapS x) = ys := ⟨_, rfl⟩
 rw [hys] at r1 r2 r3 ⊢
 have hne : ys ≠ [] := by
   intro e
   rw [e] at r3
   simp at r3
   omega
 obtain ⟨zs, c, rfl⟩ : ∃ zs c, ys = zs ++ [c] := by
   rcases List.eq_nil_or_concat ys with h0 | ⟨zs, c, h1⟩
   · exact absurd h0 hne
   · exact ⟨zs, c, by rw [h1]; simp⟩
 have hst : stepD (runD (D.st 0) zs) c = D.st (0 + recsN k (wrapS x)) := by
   rw [runD_app] at r1
   exact r1
 have hp := pay_of hst
 have hout : outD (D.st 0) zs ++ [c] = wrapS x := by
   rw [outD_app, outD, hp] at r2
   exact r2
 have hol : (outD (D.st 0) zs).length = x.length + 3 := by
   have := congrArg List.length hout
   rw [List.length_append, hwl] at this
   simp at this
   omega
 have htk : ∀ j, j ≤ x.length + 3 → (outD (D.st 0) zs).take j = (wrapS x).take j := fun j hj => by
   rw [← hout, List.take_append_of_le_length (by omega)]
 have he0 : (runD (D.st 0) zs).e = 0 := by
   have : (stepD (runD (D.st 0) zs) c).e = 0 := by rw [hst]; rfl
   rcases Nat.eq_zero_or_pos (runD (D.st 0) zs).e with h | h
   · exact h
   · rw [stepD_stay (by omega)] at this; exact this
 obtain ⟨o1, o2, o3⟩ := run_open zs T.st rfl he0 (fun j => by
   by_cases hj : j ≤ x.length + 3
   · show (runM M.st ((outD (D.st 0) zs).take j)).e = 0
     rw [htk j hj]
     exact (wrap_at x hx j (by omega)).1
   · show (runM M.st ((outD (D.st 0) zs).take j)).e = 0
     rw [List.take_of_length_le (by omega), ← List.take_of_length_le (l := outD (D.st 0) zs) (i := x.length + 3) (by omega), htk _ (Nat.le_refl _)]
     exact (wrap_at x hx _ (by omega)).1) (fun j hj => .inl (by
   show wholeM (runM M.st ((outD (D.st 0) zs).take j)) = false
   have hj : j ≤ x.length + 3 := by rw [← hol]; exact hj
   rw [htk j hj, (wrap_at x hx j (by omega)).2.1]
   exact decide_eq_false (by omega)))
 have hm : stepM (runT T.st zs).m c = runM M.st (wrapS x) := by
   rw [o3, ← hout, runM_app]
   rfl
 have hw := wrap_at x hx (x.length + 4) (Nat.le_refl _)
 rw [List.take_of_length_le (by omega), if_pos rfl, decide_eq_true rfl] at hw
 have hb : (runM M.st (wrapS x)).b = x := by rw [run_wrap x hx]
 have hu : (runT T.st zs).u = zs.length := by
   have := runT_used zs o1
   rw [show T.st.u = 0 from rfl, Nat.zero_add] at this
   exact this
 refine ⟨stepD (runT T.st zs).d c, stepM (runT T.st zs).m c, ?_⟩
 show runT T.st (zs ++ [c]) = _
 rw [runT_app]
 show stepT (runT T.st zs) c = _
 unfold stepT
 rw [if_neg (by omega), if_neg (by rw [o2]; show ¬ (stepD (runD (D.st 0) zs) c).e ≠ 0; rw [hst]; simp [D.st]), if_neg (by rw [o2]; show ¬ payD (runD (D.st 0) zs) = false; rw [hp]; simp),
   hm, if_neg (by rw [hw.1]; simp), if_neg (by rw [hw.2.1]; simp), hb, List.length_append, List.length_cons, List.length_nil]
 unfold T.bad
 rw [hu]
end Go.Proofs.YthfknndjdfofgaaGreatDoor.Tp
