/-
  Contracts of package ring's See and Pop over this seat's translation.
-/
import Derived.Test.YtpdihniimnoeoaaRgFns
import Derived.Deep.Cut
namespace Go.Proofs.Ytpdihniimnoeoaa.Rg
open Go.RowKit Go.Proofs.Ytpdihniimnoeoaa.Wd

theorem und8s : Try.prog.underlying 29 = some (.slice 5) := Try.underlying29

/-- bytes in new memory of their own -/
def Out (w w' : World) (v : Value) (xs : List UInt8) : Prop := ∃ o, v = .slice (some ⟨o, 0, none⟩) xs.length xs.length ∧ w.heap.size ≤ o ∧ Blk w' o 5 (cellsOf xs).toArray
def SeePost (w : World) (xs : List UInt8) (e : Ending) (w' : World) : Prop := ∃ v, e = .returned v ∧ Out w w' v xs ∧ Below w.heap.size w w'

set_option maxHeartbeats 1000000 in
theorem see_any (g p R : Nat) (bs : List UInt8) (n : Int) (w : World) (h : Rg w g p R bs) (hR : R ≤ 65536) :
    Calls Try.prog 17 #[.pointer (some ⟨g, 0, none⟩), .int .i64 n] w (SeePost w (bs.take (clampN n bs.length))) := by
  have hle := h.le
  obtain ⟨ps, f, hb, hp, hlen, hlaid⟩ := h
  have hk := clampN_le n bs.length
  have heq := Lib.hid (clampN_eq n bs.length)
  have hmk := makes (clampN n bs.length) (by omega)
  have hsee := Lib.hid (see_eq hlaid hk)
  have hfr := hlaid.first
  have HT := Lib.hid (show (bs.take (clampN n bs.length)).length = clampN n bs.length by rw [List.length_take]; omega)
  generalize bs.take (clampN n bs.length) = out at *
  generalize clampN n bs.length = k at *
  have hc2 : w.cell? ⟨g, 2, none⟩ = some (.int .i64 (bs.length : Int)) := by rw [hb.cell]; rfl
  have hlt := hb.lt
  have hltp := hp.lt
  generalize bs.length = m at *
  clear hlaid
  go_enter Try.func17, Try.ntmps17
  go_wp2_with fail
  refine (within_any n 0 _ _).mono ?_
  rintro e w1 ⟨rfl, rfl⟩
  rw [heq.out]
  go_upto_region 2 with fail
  have hA : Blk (w.alloc (.cells (cellsOf (List.replicate k 0)).toArray 5)) w.heap.size 5 (cellsOf (List.replicate k 0)).toArray := Blk.new _ _ _
  have hb1 := hb.alloc (.cells (cellsOf (List.replicate k 0)).toArray 5)
  have hp1 := hp.alloc (.cells (cellsOf (List.replicate k 0)).toArray 5)
  have hbel : Below w.heap.size w (w.alloc (.cells (cellsOf (List.replicate k 0)).toArray 5)) := (Below.refl _ _).alloc (Nat.le_refl _) _
  generalize w.alloc (.cells (cellsOf (List.replicate k 0)).toArray 5) = w1 at *
  clear hb hp hc2 hmk
  generalize hG : w.heap.size = G at *
  have hltg1 := hb1.lt
  have hG1 : G ≠ g := by omega
  have hGp : G ≠ p := by omega
  have hf : f ≤ R := by omega
  have hs1 : Src w1 (some ⟨p, 0, none⟩) R ps := by rw [← hlen]; exact Src.of_blk hp1 (fun j c hj => by simpa using cellsOf_get hj)
  have HS1 := Lib.hid (show Src w1 (slid (some ⟨p, 0, none⟩) R f) (R - f) (ps.drop f) from by
    have := hs1.cut (m := R) (l := f) (hi := R) hf (Nat.le_refl _) (Nat.le_refl _)
    rwa [List.take_of_length_le (by omega)] at this)
  have HA := Lib.hid hA
  have HB := Lib.hid hb1
  have HP := Lib.hid hp1
  have HL := Lib.hid hbel
  have HS := Lib.hid hs1
  have hc0 : w1.cell? ⟨g, 0, none⟩ = some (.slice (some ⟨p, 0, none⟩) R R) := by rw [hb1.cell]; rfl
  have hc1 : w1.cell? ⟨g, 1, none⟩ = some (.int .i64 (f : Int)) := by rw [hb1.cell]; rfl
  have hsl := fun w' => slice_from und8s size8 (some ⟨p, 0, none⟩) R R w' f hf
  have hG2 := Lib.hid hG
  have hlen2 := Lib.hid hlen
  clear hA hb1 hp1 hbel hs1 hG hlen
  go_region_held_law (fun w' => w'.cell? ⟨g, 0, none⟩ = some (.slice (some ⟨p, 0, none⟩) R R) ∧ w'.cell? ⟨g, 1, none⟩ = some (.int .i64 (f : Int)))
    (first | exact ⟨hc0, hc1⟩ | exact ⟨k2a, k2b⟩)
    ((refine step_copy_b (some 24) rfl rfl (.tmp 14) (.tmp 23) 29 29 rfl und8s size8 G 0 k k (R - f) (R - f) (some ⟨G, 0, none⟩) (slid (some ⟨p, 0, none⟩) R f) (List.replicate k 0) (ps.drop f) rfl rfl HA.out HS1.out (fun _ => rfl) (by rw [List.length_replicate]; omega) ?_; intro w2 HG2 hB2; have k2a := (hB2.cell (p := ⟨g, 0, none⟩) hltg1 (by simp; omega)).trans hc0; have k2b := (hB2.cell (p := ⟨g, 1, none⟩) hltg1 (by simp; omega)).trans hc1))
  have hh : min (R - f) k ≤ k := Nat.min_le_right _ _
  have HD := Lib.hid (show min (R - f) k = min (R - f) k from rfl)
  have HX := Lib.hid (show w2.cell? ⟨g, 0, none⟩ = some (.slice (some ⟨p, 0, none⟩) R R) from k2a)
  have HP2 := Lib.hid (show Blk w2 p _ _ from HP.out.but (w := w1.drew) hB2 (by simp; omega))
  have HL2 := Lib.hid (HL.out.trans (((But.refl [G] w1).drew.trans hB2).below (B := G) (by simp) (by have := HL.out.size; have := hG2.out; omega)))
  generalize hHd : min (R - f) k = d at *
  have HD2 := Lib.hid hHd
  clear hHd HD hB2 k2a k2b hc0 hc1 hsl
  have hc0 := HX.out
  have hsl := fun w' => slice_from und8s size8 (some ⟨G, 0, none⟩) k k w' d hh
  have HS2 := Lib.hid (show Src w2 (some ⟨p, 0, none⟩) R ps from by have := Src.of_blk HP2.out (xs := ps) (off := 0) (fun j c hj => by simpa using cellsOf_get hj); rwa [hlen2.out] at this)
  have hdp : 0 < k - d → slid (some ⟨G, 0, none⟩) k d = some ⟨G, d, none⟩ := fun h0 => slid_at G k d (by omega)
  have HDP := Lib.hid hdp
  have HFit := Lib.hid (show d + min R (k - d) ≤ (splice (List.replicate k 0) 0 (List.take k (List.drop f ps))).length from by
    rw [length_splice _ _ _ (by simp only [List.length_take, List.length_drop, List.length_replicate]; omega), List.length_replicate]; omega)
  clear hdp
  generalize hX : splice (List.replicate k 0) 0 (List.take k (List.drop f ps)) = X at *
  have HX1 := Lib.hid hX
  clear hX
  go_wp2_with fail
  go_region_held_law (fun w' => w'.cell? ⟨g, 0, none⟩ = some (.slice (some ⟨p, 0, none⟩) R R))
    (first | exact hc0 | exact k3)
    ((refine step_copy_b (some 32) rfl rfl (.tmp 27) (.tmp 31) 29 29 rfl und8s size8 G d (k - d) (k - d) R R (slid (some ⟨G, 0, none⟩) k d) (some ⟨p, 0, none⟩) X ps rfl rfl HG2.out HS2.out HDP.out HFit.out ?_; intro w3 HG3 hB3; have k3 := (hB3.cell (p := ⟨g, 0, none⟩) (by show g < w2.heap.size; have := HL2.out.size; have := hG2.out; omega) (by simp; omega)).trans hc0))
  have HL3 := Lib.hid (HL2.out.trans (((But.refl [G] w2).drew.trans hB3).below (B := G) (by simp) (by have := HL2.out.size; have := hG2.out; omega)))
  clear hB3 k3
  go_wp2_with fail
  go_ret
  refine ⟨_, rfl, ⟨G, ?_, by rw [hG2.out]; exact Nat.le_refl _, ?_⟩, by rw [hG2.out]; exact HL3.out⟩
  · rw [HT.out]; rfl
  · rw [← hsee.out]
    unfold seeS
    rw [hlen2.out, HD2.out, HX1.out]
    exact HG3.out

theorem set3_0 (a b c x : Value) : (#[a, b, c] : Array Value).setIfInBounds 0 x = #[x, b, c] := by simp
theorem set3_1 (a b c x : Value) : (#[a, b, c] : Array Value).setIfInBounds 1 x = #[a, x, c] := by simp
theorem set3_2 (a b c x : Value) : (#[a, b, c] : Array Value).setIfInBounds 2 x = #[a, b, x] := by simp
def PopPost (g p R : Nat) (w : World) (out rest : List UInt8) (e : Ending) (w' : World) : Prop := ∃ v, e = .returned v ∧ Out w w' v out ∧ Rg w' g p R rest ∧ But [g] w w'
set_option maxHeartbeats 1000000 in
theorem pop_any (g p R : Nat) (bs : List UInt8) (n : Int) (w : World) (h : Rg w g p R bs) (hR : R ≤ 65536) :
    Calls Try.prog 15 #[.pointer (some ⟨g, 0, none⟩), .int .i64 n] w (PopPost g p R w (bs.take (clampN n bs.length)) (bs.drop (clampN n bs.length))) := by
  have HQ := Lib.hid h
  have hle := h.le
  obtain ⟨ps, f, hb, hp, hlen, hlaid⟩ := h
  have hk := clampN_le n bs.length
  have hld := laid_drop hlaid hk
  have hfr := hlaid.first
  have hf : f ≤ R := by omega
  have HT := Lib.hid (show (bs.take (clampN n bs.length)).length = clampN n bs.length by rw [List.length_take]; omega)
  have HD := Lib.hid (show (bs.drop (clampN n bs.length)).length = bs.length - clampN n bs.length by rw [List.length_drop])
  have HSee := Lib.hid (see_any g p R bs n w HQ.out hR)
  rw [hlen] at hld
  have HLd := Lib.hid hld
  generalize bs.take (clampN n bs.length) = out at *
  generalize bs.drop (clampN n bs.length) = rest at *
  generalize clampN n bs.length = k at *
  have HB := Lib.hid hb
  have HP := Lib.hid hp
  have Hlen := Lib.hid hlen
  have hlt := hb.lt
  clear HQ hlaid hld hb hp hlen
  have hw : IntKind.i64.wrap ((bs.length : Int) - (k : Int)) = ((bs.length - k : Nat) : Int) := by rw [IntWalk.i64_in _ (by omega)]; omega
  generalize bs.length = m at *
  go_enter Try.func15, Try.ntmps15
  go_wp2_with fail
  refine HSee.out.mono ?_
  rintro e w1 ⟨v, rfl, ⟨o, rfl, ho, hob⟩, hbel⟩
  have hb1 := HB.out.below hbel hlt
  have hp1 := HP.out.below hbel HP.out.lt
  have HB1 := Lib.hid hb1
  have HP1 := Lib.hid hp1
  have HO := Lib.hid hob
  have HL := Lib.hid hbel
  have hne := Lib.hid (hp1.ne_ hb1 (by decide))
  rw [HT.out]
  clear hob hp1 hb1 hbel
  go_wp2_with fail
  refine (place_any g p R k _ f _ HB1.out hf hR (by omega)).mono ?_
  rintro e w2 ⟨rfl, q, rfl⟩
  have hb2 : Blk (w1.drewN q) g 43 #[.slice (some ⟨p, 0, none⟩) R R, .int .i64 (f : Int), .int .i64 (m : Int)] := HB1.out
  have hc1 : (w1.drewN q).cell? ⟨g, 1, none⟩ = some (.int .i64 (f : Int)) := by rw [hb2.cell]; rfl
  have hc2 : (w1.drewN q).cell? ⟨g, 2, none⟩ = some (.int .i64 (m : Int)) := by rw [hb2.cell]; rfl
  have hf1 := hb2.frozen 1
  have hf2 := hb2.frozen 2
  have HB2 := Lib.hid hb2
  have HL2 := Lib.hid (show But [g] w (w1.drewN q) from (But.of_below HL.out [g]).drewN q)
  have HP2 := Lib.hid (show Blk (w1.drewN q) p _ _ from HP1.out)
  have HO2 := Lib.hid (show Blk (w1.drewN q) o _ _ from HO.out)
  have hog := Lib.hid (HO.out.ne_ HB1.out (by decide))
  clear hb2 HB1 HL HP1 HO
  generalize w1.drewN q = w3 at *
  generalize placeN R f k = f' at *
  go_wp2_with fail
  go_ret
  refine ⟨_, rfl, ⟨o, by rw [HT.out]; rfl, ho, (HO2.out.far (p := ⟨g, 1, none⟩) hog.out _).far (p := ⟨g, 2, none⟩) hog.out _⟩, ⟨ps, f', ?_, (HP2.out.far (p := ⟨g, 1, none⟩) hne.out _).far (p := ⟨g, 2, none⟩) hne.out _, Hlen.out, HLd.out⟩, (HL2.out.set_ (p := ⟨g, 1, none⟩) (.inl (by simp)) _).set_ (p := ⟨g, 2, none⟩) (.inl (by simp)) _⟩
  have h := (HB2.out.set_ 1 (.int .i64 (f' : Int))).set_ 2 (.int .i64 ((m - k : Nat) : Int))
  rw [set3_1, set3_2] at h
  rw [HD.out]
  exact h
end Go.Proofs.Ytpdihniimnoeoaa.Rg
