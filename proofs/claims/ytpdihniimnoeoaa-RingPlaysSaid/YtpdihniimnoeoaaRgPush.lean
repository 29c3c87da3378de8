/-
  Contract of package ring's Push over this seat's translation.
-/
import Derived.Test.YtpdihniimnoeoaaRgSee
namespace Go.Proofs.Ytpdihniimnoeoaa.Rg
open Go.RowKit Go.Proofs.Ytpdihniimnoeoaa.Wd

theorem Rg.blks {w : World} {g p R : Nat} {bs : List UInt8} (h : Rg w g p R bs) : g ≠ p := by
  obtain ⟨ps, f, h1, h2, _⟩ := h
  exact h1.ne_ h2 (by decide)
def PushPost (g p R : Nat) (w : World) (bs b : List UInt8) (e : Ending) (w' : World) : Prop :=
  e = .returned (.int .i64 ((roomN R bs.length b.length : Nat) : Int)) ∧ Rg w' g p R (bs ++ b.take (roomN R bs.length b.length)) ∧ But [g, p] w w'
set_option maxHeartbeats 2000000 in
theorem push_any (g p R : Nat) (bs : List UInt8) (A : Option Addr) (n c : Nat) (b : List UInt8) (w : World) (h : Rg w g p R bs) (hR : R ≤ 65536) (hs : Src w A n b) (hnc : n ≤ c) (hA : 0 < n → ∀ x, A = some x → x.block ≠ g ∧ x.block ≠ p) :
    Calls Try.prog 13 #[.pointer (some ⟨g, 0, none⟩), .slice A n c] w (PushPost g p R w bs b) := by
  have HQ := Lib.hid h
  have hle := h.le
  have hgp := h.blks
  obtain ⟨ps, f, hb, hp, hlen, hlaid⟩ := h
  have hfr := hlaid.first
  have hf : f ≤ R := by omega
  have hbn := hs.1
  have HPush := Lib.hid (laid_push b hlaid)
  have HPL := Lib.hid (pushS_len b hlaid)
  have hpl := placeN_le R f bs.length
  have HT0 := Lib.hid (show placeN R f bs.length < R ∨ (R = 0 ∧ placeN R f bs.length = 0) from by
    rcases Nat.eq_zero_or_pos R with h0 | h0
    · exact .inr ⟨h0, placeN_none h0⟩
    · exact .inl (placeN_lt h0))
  have HN := Lib.hid (show withinI (n : Int) 0 (((R - bs.length : Nat)) : Int) = ((roomN R bs.length b.length : Nat) : Int) from by
    rw [clampN_eq, clampN_len]; unfold roomN; rw [hbn])
  have hn1 : roomN R bs.length b.length ≤ n := by rw [hbn]; exact Nat.min_le_left _ _
  have hn2 : roomN R bs.length b.length ≤ R - bs.length := Nat.min_le_right _ _
  have HLen := Lib.hid (show (bs ++ b.take (roomN R bs.length b.length)).length = bs.length + roomN R bs.length b.length from by rw [List.length_append, List.length_take]; omega)
  have HX := Lib.hid (show pushS ps f bs.length b = splice (splice ps (placeN R f bs.length) ((b.take (roomN R bs.length b.length)).take (R - placeN R f bs.length))) 0 (((b.take (roomN R bs.length b.length)).drop (min (roomN R bs.length b.length) (R - placeN R f bs.length))).take R) from by
    unfold pushS; rw [hlen])
  show Calls _ _ _ _ (fun e w' => e = .returned (.int .i64 ((roomN R bs.length b.length : Nat) : Int)) ∧ Rg w' g p R (bs ++ b.take (roomN R bs.length b.length)) ∧ But [g, p] w w')
  rw [hlen] at HPush
  have hs1 : Src w A (roomN R bs.length b.length) (b.take (roomN R bs.length b.length)) := hs.take (by rw [hbn]; exact Nat.min_le_left _ _)
  generalize bs ++ b.take (roomN R bs.length b.length) = bs' at *
  generalize pushS ps f bs.length b = ps' at *
  have HK := Lib.hid (rfl : roomN R bs.length b.length = roomN R bs.length b.length)
  generalize hbk : b.take (roomN R bs.length b.length) = bk at *
  generalize roomN R bs.length b.length = k at *
  have hbkl : bk.length = k := hs1.1
  have HBK := Lib.hid hbkl
  have HTK := Lib.hid hbk
  generalize hT : placeN R f bs.length = T at *
  have HFree := Lib.hid (free_any g p R bs w HQ.out hR)
  have HB := Lib.hid hb
  have HP := Lib.hid hp
  have Hlen := Lib.hid hlen
  have HS := Lib.hid hs
  have HS1 := Lib.hid hs1
  have HT := Lib.hid hT
  have hwm : IntKind.i64.wrap ((bs.length : Int) + (k : Int)) = ((bs.length + k : Nat) : Int) := by rw [IntWalk.i64_in _ (by omega)]; omega
  have HWM := Lib.hid hwm
  have HA := Lib.hid hA
  have hltg := hb.lt
  have hltp := hp.lt
  clear HQ HK hlaid hb hp hs hs1 hT hbn hbk hbkl hwm hA
  generalize hm : bs.length = m at *
  clear hm
  have hsl1 := fun w' => slice_to und8s size8 A n c w' k (by omega)
  have hsl2 := fun w' => slice_from und8s size8 (some ⟨p, 0, none⟩) R R w' T hpl
  go_enter Try.func13, Try.ntmps13
  go_wp2_with fail
  refine HFree.out.mono ?_
  rintro e w1 ⟨rfl, q, rfl⟩
  go_wp2_with fail
  refine (within_any (n : Int) 0 _ _).mono ?_
  rintro e w1 ⟨rfl, rfl⟩
  rw [HN.out]
  have hb1 : Blk (w.drewN q) g 43 #[.slice (some ⟨p, 0, none⟩) R R, .int .i64 (f : Int), .int .i64 (m : Int)] := HB.out
  have HB1 := Lib.hid hb1
  have HP1 := Lib.hid (show Blk (w.drewN q) p _ _ from HP.out)
  have HS2 := Lib.hid (show Src (w.drewN q) A k bk from HS1.out)
  have HS3 := Lib.hid (show Src (w.drewN q) A n b from HS.out)
  have HL1 := Lib.hid (show But [g, p] w (w.drewN q) from (But.refl _ w).drewN q)
  have hltg1 : g < (w.drewN q).heap.size := hltg
  have hltp1 : p < (w.drewN q).heap.size := hltp
  have hc0 : (w.drewN q).cell? ⟨g, 0, none⟩ = some (.slice (some ⟨p, 0, none⟩) R R) := by rw [hb1.cell]; rfl
  have hc2 : (w.drewN q).cell? ⟨g, 2, none⟩ = some (.int .i64 (m : Int)) := by rw [hb1.cell]; rfl
  clear hb1 HFree
  generalize w.drewN q = w1 at *
  go_wp2_with fail
  have HDP := Lib.hid (show 0 < R - T → slid (some ⟨p, 0, none⟩) R T = some ⟨p, T, none⟩ from fun h0 => slid_at p R T (by omega))
  have HF1 := Lib.hid (show T + min k (R - T) ≤ ps.length from by have := Hlen.out; omega)
  go_region_held_law (fun w' => w'.cell? ⟨g, 0, none⟩ = some (.slice (some ⟨p, 0, none⟩) R R) ∧ w'.cell? ⟨g, 2, none⟩ = some (.int .i64 (m : Int)))
    (first | exact ⟨hc0, hc2⟩ | exact ⟨k2a, k2b⟩)
    (first
      | (go_at_call 23; refine (place_any g p R m _ f _ (by exact HB1.out) hf hR (by omega)).mono ?_; rintro e w2 ⟨rfl, q2, rfl⟩; rw [HT.out])
      | (refine step_copy_b (some 26) rfl rfl (.tmp 22) (.tmp 25) 29 29 rfl und8s size8 p T (R - T) (R - T) k c (slid (some ⟨p, 0, none⟩) R T) A ps bk rfl rfl HP1.out HS2.out HDP.out HF1.out ?_; intro w2 HG2 hB2; have k2a := (hB2.cell (p := ⟨g, 0, none⟩) hltg1 (by simp; omega)).trans hc0; have k2b := (hB2.cell (p := ⟨g, 2, none⟩) hltg1 (by simp; omega)).trans hc2))
  have hd1 : min k (R - T) ≤ k := Nat.min_le_left _ _
  have hsub : Src w1 (slid A c (min k (R - T))) (k - min k (R - T)) (bk.drop (min k (R - T))) := by
    have := HS3.out.cut (m := c) (l := min k (R - T)) (hi := k) hd1 hn1 hnc
    rwa [HTK.out] at this
  have HS4 := Lib.hid (show Src w2 _ _ _ from hsub.but (w := w1) (((But.refl [p] w1).drewN (1 + q2)).trans hB2) (fun h0 x hx => by
    obtain ⟨y, hy, hyx⟩ := slid_block hx
    have := (HA.out (by omega) y hy).2
    rw [← hyx]
    simpa using this))
  have HL2 := Lib.hid (HL1.out.trans ((((But.refl [p] w1).drewN (1 + q2)).trans hB2).more (T := [g, p]) (by simp)))
  have HB2 := Lib.hid (show Blk w2 g _ _ from HB1.out.but (w := w1.drewN (1 + q2)) hB2 (by simp; omega))
  have HX0 := Lib.hid k2a
  clear hB2 k2a k2b hc0 hc2 hsl1 hsl2 hsub HS3 HS2 HP1 HB1 HS HS1 HL1 HB HP
  have hc0 := HX0.out
  generalize hD : min k (R - T) = d at *
  have HD := Lib.hid hD
  clear hD
  have hsl3 := fun w' => slice_mid und8s size8 A n c w' d k hd1 (by omega)
  generalize hX1 : splice ps T (List.take (R - T) bk) = X at *
  have HX1 := Lib.hid hX1
  have HXL := Lib.hid (show X.length = R from by
    rw [← hX1, length_splice]
    · exact Hlen.out
    · rw [List.length_take, HBK.out, Hlen.out]; omega)
  have HF2 := Lib.hid (show 0 + min (k - d) R ≤ X.length from by rw [HXL.out]; omega)
  clear hX1
  have hltg2 := HB2.out.lt
  go_wp2_with fail
  go_region_held_law (fun w' => w'.cell? ⟨g, 0, none⟩ = some (.slice (some ⟨p, 0, none⟩) R R))
    (first | exact hc0 | exact k3)
    ((refine step_copy_b (some 35) rfl rfl (.tmp 30) (.tmp 34) 29 29 rfl und8s size8 p 0 R R (k - d) (c - d) (some ⟨p, 0, none⟩) (slid A c d) X (bk.drop d) rfl rfl HG2.out HS4.out (fun _ => rfl) HF2.out ?_; intro w3 HG3 hB3; have k3 := (hB3.cell (p := ⟨g, 0, none⟩) hltg2 (by simp; omega)).trans hc0))
  have HB3 := Lib.hid (show Blk w3 g _ _ from HB2.out.but (w := w2.drew) hB3 (by simp; omega))
  have HL3 := Lib.hid (HL2.out.trans (((But.refl [p] w2).drew.trans hB3).more (T := [g, p]) (by simp)))
  have hc2 : w3.cell? ⟨g, 2, none⟩ = some (.int .i64 (m : Int)) := by rw [HB3.out.cell]; rfl
  have hf2 := HB3.out.frozen 2
  have hwm := HWM.out
  clear hB3 k3 hc0 HX0 HB2
  go_wp2_with fail
  go_ret
  refine ⟨rfl, ⟨ps', f, ?_, ?_, by rw [HPL.out, Hlen.out], HPush.out⟩, HL3.out.set_ (p := ⟨g, 2, none⟩) (.inl (by simp)) _⟩
  · have h := HB3.out.set_ 2 (.int .i64 ((m + k : Nat) : Int))
    rw [set3_2] at h
    rw [HLen.out]
    exact h
  · rw [HX.out]
    exact HG3.out.far (p := ⟨g, 2, none⟩) (Ne.symm hgp) _

/-- a queue of the call's own, behind what was there before the call: B blocks of w -/
structure Held (B : Nat) (w w' : World) (g p R : Nat) (bs : List UInt8) : Prop where
  rg : Rg w' g p R bs
  bel : Below B w w'
  hg : B ≤ g
  hp : B ≤ p
  hB : B ≤ w'.heap.size
theorem Held.on {B : Nat} {w a b : World} {g p R : Nat} {bs bs' : List UInt8} (h : Held B w a g p R bs) (k : But [g, p] a b) (r : Rg b g p R bs') : Held B w b g p R bs' :=
  ⟨r, h.bel.trans (k.below (by have := h.hg; have := h.hp; simp; omega) h.hB), h.hg, h.hp, Nat.le_trans h.hB k.size⟩
theorem Held.same {B : Nat} {w a b : World} {g p R : Nat} {bs : List UInt8} (h : Held B w a g p R bs) (k : But [] a b) : Held B w b g p R bs :=
  h.on (k.none _) (h.rg.same k)
theorem Held.beside {B : Nat} {w a b : World} {g p R : Nat} {bs : List UInt8} {S : List Nat} (h : Held B w a g p R bs) (k : But S a b) (hg : g ∉ S) (hp : p ∉ S) (hb : Below B w b) : Held B w b g p R bs :=
  ⟨h.rg.but k hg hp, hb, h.hg, h.hp, Nat.le_trans h.hB k.size⟩
theorem Held.drewN {B : Nat} {w a : World} {g p R : Nat} {bs : List UInt8} (h : Held B w a g p R bs) (k : Nat) : Held B w (a.drewN k) g p R bs := h.same ((But.refl [] a).drewN k)
theorem Held.le {B : Nat} {w a : World} {g p R : Nat} {bs : List UInt8} (h : Held B w a g p R bs) : bs.length ≤ R := h.rg.le
theorem new_held (room : Int) (w w1 : World) {B : Nat} (hb : Below B w w1) (hB : B ≤ w1.heap.size) :
    Calls Try.prog 11 #[.int .i64 room] w1 fun e w' => ∃ g p, e = .returned (.pointer (some ⟨g, 0, none⟩)) ∧ Held B w w' g p (roomR room) [] ∧ Below w1.heap.size w1 w' ∧ w1.heap.size ≤ g ∧ w1.heap.size ≤ p :=
  (new_any room w1).mono fun e w' ⟨g, p, he, hg, hp, hr, hb'⟩ => ⟨g, p, he, ⟨hr, hb.trans (hb'.mono hB), by omega, by omega, Nat.le_trans hB hb'.size⟩, hb', hg, hp⟩
theorem push_held {B : Nat} {w w1 : World} {g p R : Nat} {bs : List UInt8} (h : Held B w w1 g p R bs) (hR : R ≤ 65536) (A : Option Addr) (n c : Nat) (b : List UInt8) (hs : Src w1 A n b) (hnc : n ≤ c) (hA : 0 < n → ∀ x, A = some x → x.block ≠ g ∧ x.block ≠ p) :
    Calls Try.prog 13 #[.pointer (some ⟨g, 0, none⟩), .slice A n c] w1 fun e w' =>
      e = .returned (.int .i64 ((roomN R bs.length n : Nat) : Int)) ∧ Held B w w' g p R (bs ++ b.take (roomN R bs.length n)) ∧ But [g, p] w1 w' :=
  (push_any g p R bs A n c b w1 h.rg hR hs hnc hA).mono fun e w' ⟨he, hr, hb⟩ => by
    rw [hs.1] at he hr
    exact ⟨he, h.on hb hr, hb⟩
/-- bytes in new memory, as the walk asks them -/
def Fresh (w w' : World) (o : Nat) (xs : List UInt8) : Prop := w.heap.size ≤ o ∧ Blk w' o 5 (cellsOf xs).toArray
theorem Fresh.src {w w' : World} {o : Nat} {xs : List UInt8} (h : Fresh w w' o xs) : Src w' (some ⟨o, 0, none⟩) xs.length xs := Src.of_blk h.2 (fun j c hj => by simpa using cellsOf_get hj)
theorem see_held {B : Nat} {w w1 : World} {g p R : Nat} {bs : List UInt8} (h : Held B w w1 g p R bs) (hR : R ≤ 65536) (n : Int) :
    Calls Try.prog 17 #[.pointer (some ⟨g, 0, none⟩), .int .i64 n] w1 fun e w' =>
      ∃ o, e = .returned (.slice (some ⟨o, 0, none⟩) (bs.take (clampN n bs.length)).length (bs.take (clampN n bs.length)).length) ∧ Fresh w1 w' o (bs.take (clampN n bs.length)) ∧ Held B w w' g p R bs ∧ But [] w1 w' :=
  (see_any g p R bs n w1 h.rg hR).mono fun e w' ⟨v, he, ⟨o, hv, ho, hb⟩, hbel⟩ => by
    subst he hv
    exact ⟨o, rfl, ⟨ho, hb⟩, h.same (But.of_below hbel []), But.of_below hbel []⟩
theorem pop_held {B : Nat} {w w1 : World} {g p R : Nat} {bs : List UInt8} (h : Held B w w1 g p R bs) (hR : R ≤ 65536) (n : Int) :
    Calls Try.prog 15 #[.pointer (some ⟨g, 0, none⟩), .int .i64 n] w1 fun e w' =>
      ∃ o, e = .returned (.slice (some ⟨o, 0, none⟩) (bs.take (clampN n bs.length)).length (bs.take (clampN n bs.length)).length) ∧ Fresh w1 w' o (bs.take (clampN n bs.length)) ∧ Held B w w' g p R (bs.drop (clampN n bs.length)) ∧ But [g] w1 w' :=
  (pop_any g p R bs n w1 h.rg hR).mono fun e w' ⟨v, he, ⟨o, hv, ho, hb⟩, hr, hbut⟩ => by
    subst he hv
    exact ⟨o, rfl, ⟨ho, hb⟩, h.on (hbut.more (by simp)) hr, hbut⟩
theorem roomR_le (room : Int) : roomR room ≤ 65536 := clampN_le _ _
end Go.Proofs.Ytpdihniimnoeoaa.Rg
