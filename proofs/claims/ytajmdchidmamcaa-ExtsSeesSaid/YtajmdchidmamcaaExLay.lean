/-
  Contracts of package exts' layers of one item over this seat's translation: layName, layProtocol, layVersion; be.Vec, whatever comes of it.
-/
import Derived.Test.YtajmdchidmamcaaExTell
import Derived.Test.YtajmdchidmamcaaBePut
namespace Go.Proofs.Ytajmdchidmamcaa.Ex
open Go.RowKit Go.Proofs.Ytajmdchidmamcaa.Wd Go.Proofs.Ytajmdchidmamcaa.Be Go.Proofs.Ytajmdchidmamcaa.He Go.Proofs.Ytajmdchidmamcaa.Ro

/-- bytes, or none -/
def ItemP (p : Option (List UInt8)) (w : World) (e : Ending) (w' : World) : Prop :=
  ∃ A n c, e = .returned (.tuple #[.slice A n c, .bool p.isSome]) ∧ Src w' A n (p.getD []) ∧ n ≤ c ∧ Below w.heap.size w w'
theorem src_blk {w : World} {g : Nat} {t : TypeId} {xs : List UInt8} (h : Blk w g t (cellsOf xs).toArray) : Src w (some ⟨g, 0, none⟩) xs.length xs :=
  Src.of_blk h (fun j c hj => by simpa using cellsOf_get hj)
/-- a vector behind bytes; or none -/
def vecP (xs : List UInt8) (k : Nat) (ys : List UInt8) : Option (List UInt8) := if ys.length < 256 ^ k then some (xs ++ vecB k ys) else none
/-- be.Vec: what is answered if it can't be told reads as xs -/
def VecP (xs : List UInt8) (p : Option (List UInt8)) (w : World) (e : Ending) (w' : World) : Prop :=
  ∃ A n c, e = .returned (.tuple #[.slice A n c, .bool p.isSome]) ∧ Src w' A n (p.getD xs) ∧ n ≤ c ∧ Below w.heap.size w w'
theorem bvec_any (A : Option Addr) (n c k : Nat) (B : Option Addr) (m d : Nat) (size : Int) (xs ys : List UInt8) (w : World) (hs : Src w A n xs) (ht : Src w B m ys) (hn : n ≤ 100000) (hm : m ≤ 9223372036854775807) (hk : clampI size = k) (hk2 : k ≤ 2) :
    Calls Try.prog 65 #[.slice A n c, .int .i64 size, .slice B m d] w (VecP xs (vecP xs k ys) w) := by
  have hp : 256 ^ k ≤ 65536 := Nat.pow_le_pow_right (n := 256) (by omega) hk2
  have hpi : ((256 ^ k : Nat) : Int) = 256 ^ k := by rw [Int.natCast_pow]; rfl
  by_cases h : ys.length < 256 ^ k
  · have hlt : m < 256 ^ k := by rw [← ht.1]; exact h
    refine (vec_yes A n c k B m d size xs ys w hs ht (by omega) hk (by omega)).mono ?_
    rintro e w' ⟨rfl, hb, hbel⟩
    have hv : vecP xs k ys = some (xs ++ vecB k ys) := if_pos h
    rw [hv]
    have hsrc := src_blk hb
    have e1 : xs ++ bytesOf (m : Int) k ++ ys = xs ++ vecB k ys := by rw [vecB, ht.1, List.append_assoc]
    have e2 : (xs ++ vecB k ys).length = n + (k + m) := by rw [List.length_append, vecB_len, hs.1, ht.1]
    rw [e1, e2] at hsrc
    exact ⟨_, _, _, rfl, hsrc, Nat.le_refl _, hbel⟩
  · have hlt : ¬ m < 256 ^ k := by rw [← ht.1]; exact h
    refine (vec_no A n c k B m d size xs w hs (by omega) hk (by omega) (by omega)).mono ?_
    rintro e w' ⟨rfl, hb, hbel⟩
    have hv : vecP xs k ys = none := if_neg h
    rw [hv]
    have hsrc := src_blk hb
    rw [hs.1] at hsrc
    exact ⟨_, _, _, rfl, hsrc, Nat.le_refl _, hbel⟩

/-- []byte(s): new memory that reads as s -/
theorem bytes_str8 (x : List UInt8) (w : World) : ∃ c w', (convert 9 22 (.string (str8 x))).run Try.prog w = .ok (.slice (some ⟨w.heap.size, 0, none⟩) x.length c) w' ∧ Src w' (some ⟨w.heap.size, 0, none⟩) x.length x ∧ Below w.heap.size w w' ∧ w'.heap.size = w.heap.size + 1 ∧ x.length ≤ c := by
  refine ⟨_, _, run_bytes_of_string (P := Try.prog) w 9 22 5 (str8 x) Try.underlying9 Try.underlying22 Try.underlying5, ⟨rfl, fun _ => ⟨_, rfl, ?_, fun j c hj => ?_⟩⟩, ?_, ?_, grownCap_ge _ _ _ _⟩
  · show w.heap.size < (w.heap.push _).size
    simp
  · have hj' : (str8 x).data[j]? = some c := by rw [← Array.getElem?_toList]; simpa [str8] using hj
    have hlt := (Array.getElem?_eq_some_iff.1 hj').1
    rw [add_none, Nat.zero_add]
    refine (World.cell?_alloc_mark w.drew _ _ _ j).trans ?_
    rw [bytesRow_at (str8 x) _ j hlt, (Array.getElem?_eq_some_iff.1 hj').2]
    rfl
  · exact (Below.refl _ _).drew.alloc (Nat.le_refl _) _
  · show (w.heap.push _).size = _
    simp

set_option maxHeartbeats 400000 in
theorem lver_any (n : Int) (w : World) : Calls Try.prog 47 #[.int .i64 n] w (ItemP (putV n) w) := by
  by_cases h1 : n < 0
  · have HP := Lib.hid (show putV n = none from if_neg (by omega))
    have hd : decide (n < 0) = true := decide_eq_true h1
    go_enter Try.func47, Try.ntmps47
    go_wp2_with fail
    go_ret2
    rw [HP.out]
    exact ⟨none, 0, 0, rfl, Src.nil _, Nat.le_refl _, Below.refl _ _⟩
  · by_cases h2 : 65535 < n
    · have HP := Lib.hid (show putV n = none from if_neg (by omega))
      have hd : decide (n < 0) = false := decide_eq_false h1
      go_enter Try.func47, Try.ntmps47
      go_wp2_with fail
      go_ret2
      rw [HP.out]
      exact ⟨none, 0, 0, rfl, Src.nil _, Nat.le_refl _, Below.refl _ _⟩
    · have HP := Lib.hid (show putV n = some (bytesOf n 2) from if_pos (by omega))
      have hd : decide (n < 0) = false := decide_eq_false h1
      go_enter Try.func47, Try.ntmps47
      go_wp2_with fail
      refine (put_any none 0 0 2 n 2 [] w (Src.nil w) (by omega) (by decide)).mono ?_
      rintro e w1 ⟨rfl, hb, hbel⟩
      have hsrc := src_blk hb
      rw [List.nil_append, bytesOf_length] at hsrc
      have HS := Lib.hid hsrc
      clear hb hsrc
      go_wp2_with fail
      go_ret2
      rw [HP.out]
      exact ⟨_, _, _, rfl, HS.out, Nat.le_refl _, hbel⟩

set_option maxRecDepth 100000 in
set_option maxHeartbeats 400000 in
theorem lpro_any (x : List UInt8) (w : World) (hx : x.length ≤ 9223372036854775807) : Calls Try.prog 44 #[.string (str8 x)] w (ItemP (putP x) w) := by
  by_cases h0 : x = []
  · have HP := Lib.hid (show putP x = none from if_pos h0)
    have he : (str8 x).toList.isEmpty = true := by rw [h0, Lib.toList_data]; rfl
    clear h0
    go_enter Try.func44, Try.ntmps44
    go_wp2_with fail
    go_ret2
    rw [HP.out]
    exact ⟨none, 0, 0, rfl, Src.nil _, Nat.le_refl _, Below.refl _ _⟩
  · have HP := Lib.hid (show putP x = vecP [] 1 x by rw [putP, if_neg h0]; rfl)
    have he : (str8 x).toList.isEmpty = false := by
      rw [Lib.toList_data]
      cases x with
      | nil => exact absurd rfl h0
      | cons a x => rfl
    clear h0
    obtain ⟨c, w1, hcv, hs1, hb1, hsz, _⟩ := bytes_str8 x w
    have HS := Lib.hid hs1
    clear hs1
    go_enter Try.func44, Try.ntmps44
    go_wp2_with fail
    refine (bvec_any none 0 0 1 _ _ _ 1 [] x w1 (Src.nil _) HS.out (by omega) hx (by decide) (by omega)).mono ?_
    rintro e w2 ⟨A, n, c2, rfl, hs2, hnc, hb2⟩
    have HB := Lib.hid (hb1.trans (hb2.mono (by omega)))
    have HS2 := Lib.hid hs2
    clear hs2 hb2 hb1 hcv
    rw [← HP.out] at HS2 ⊢
    go_wp2_with fail
    go_ret2
    exact ⟨A, n, c2, rfl, HS2.out, hnc, HB.out⟩

theorem may_len {x : List UInt8} (h : mayS x = true) : x.length ≤ 255 := by
  unfold mayS at h
  rw [Bool.and_eq_true] at h
  exact of_decide_eq_true h.1
set_option maxRecDepth 100000 in
set_option maxHeartbeats 400000 in
theorem lnam_any (x : List UInt8) (w : World) : Calls Try.prog 43 #[.string (str8 x)] w (ItemP (putN x) w) := by
  go_enter Try.func43, Try.ntmps43
  go_wp2_with fail
  refine (may_any x w).mono ?_
  rintro e w1 ⟨rfl, hb1⟩
  obtain ⟨b, hb⟩ : ∃ b, mayS x = b := ⟨_, rfl⟩
  rw [hb]
  cases b with
  | false =>
    have HP := Lib.hid (show putN x = none by rw [putN, hb]; rfl)
    clear hb
    go_wp2_with fail
    go_ret2
    rw [HP.out]
    exact ⟨none, 0, 0, rfl, Src.nil _, Nat.le_refl _, hb1⟩
  | true =>
    have hx := may_len hb
    have hv : vecP [0] 2 x = some ([0] ++ vecB 2 x) := if_pos (by have : (256 : Nat) ^ 2 = 65536 := rfl; omega)
    have HP := Lib.hid (show putN x = vecP [0] 2 x by rw [hv, putN, hb]; rfl)
    have HV := Lib.hid hv
    clear hv
    clear hb
    go_wp2_with fail
    refine (put_any none 0 0 1 0 1 [] w1 (Src.nil w1) (by omega) (by decide)).mono ?_
    rintro e w2 ⟨rfl, hb, hbel⟩
    have hsrc := src_blk hb
    rw [List.nil_append, bytesOf_length] at hsrc
    have h0 : bytesOf 0 1 = [0] := by decide
    rw [h0] at hsrc
    have HB2 := Lib.hid (hb1.trans (hbel.mono hb1.size))
    obtain ⟨c, w3, hcv, hs3, hb3, hsz, _⟩ := bytes_str8 x w2
    have HS := Lib.hid hs3
    have HS0 := Lib.hid (hsrc.below hb3)
    have HB3 := Lib.hid (HB2.out.trans (hb3.mono HB2.out.size))
    clear hb hsrc hs3 hb1 hbel hb3 h0 HB2
    go_wp2_with fail
    refine (bvec_any _ _ _ 2 _ _ _ 2 [0] x w3 HS0.out HS.out (by omega) (by omega) (by decide) (by omega)).mono ?_
    rintro e w4 ⟨A, n, c2, rfl, hs4, hnc, hb4⟩
    have HB := Lib.hid (HB3.out.trans (hb4.mono HB3.out.size))
    have HS4 := Lib.hid (show Src w4 A n ((putN x).getD []) by rw [HP.out]; rw [HV.out] at hs4 ⊢; exact hs4)
    rw [← HP.out]
    clear hs4 hb4 hcv
    go_wp2_with fail
    go_ret2
    exact ⟨A, n, c2, rfl, HS4.out, hnc, HB.out⟩

theorem putN_len {x a : List UInt8} (h : putN x = some a) : a.length ≤ 65550 := by
  unfold putN at h
  split at h
  · rename_i hm
    injection h with h
    have := may_len hm
    rw [← h, List.length_cons, vecB_len]; omega
  · cases h
theorem putP_len {x a : List UInt8} (h : putP x = some a) : a.length ≤ 65550 := by
  unfold putP at h
  split at h
  · cases h
  · split at h
    · injection h with h
      rw [← h, vecB_len]; omega
    · cases h
theorem putV_len {x : Int} {a : List UInt8} (h : putV x = some a) : a.length ≤ 65550 := by
  unfold putV at h
  split at h
  · injection h with h
    rw [← h, bytesOf_length]; omega
  · cases h
theorem Own.grown_by {w w' : World} {B : Nat} {v : Value} {xs : List UInt8} (h : Own w B v xs) (hb : Below w.heap.size w w') : Own w' B v xs := by
  obtain ⟨hl, h0 | ⟨g, cap, cur, hv, hg, hh, r⟩⟩ := h
  · exact ⟨hl, .inl h0⟩
  · exact ⟨hl, .inr ⟨g, cap, cur, hv, hg, Blk.below (t := 5) (cs := cur) hh hb (Blk.lt (t := 5) (cs := cur) hh), r⟩⟩
end Go.Proofs.Ytajmdchidmamcaa.Ex
