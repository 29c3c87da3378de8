/-
  Contracts of the document's own queue (hagioscoperef05): New, Push, See, Pop.
-/
import Derived.Test.YtpdihniimnoeoaaRgPush
namespace Go.Proofs.Ytpdihniimnoeoaa.Rg
open Go.RowKit Go.Proofs.Ytpdihniimnoeoaa.Wd

section
variable {P : Program} {w : World}
/-- append as one step of a region that draws -/
theorem step_app_b {ops : Array Oper} {o : Oper} {a : Act} {K : Act → World → Prop} {Q : Exit → Act → World → Prop} {E : Prop} (dst : Option Tmp) (hdst : o.dst = dst) (hgd : o.guard = none) (s x : Operand) (t : TypeId)
    (ho : o.op = .call { callee := .builtin .append, args := #[s, x], argTypes := #[t, t] }) (ht : P.underlying t = some (.slice 5)) (hinfo : (P.info? 5).map (fun i => (i.zero, i.size, i.bytes)) = some (some (.int .u8 0), 1, 1))
    (B : Nat) (v : Value) (xs : List UInt8) (hs : a.eval s = v) (hown : Own w B v xs) (A : Option Addr) (m c : Nat) (ys : List UInt8) (hx : a.eval x = .slice A m c) (hsrc : Src w A m ys)
    (hlen : xs.length + m ≤ 140737488355328) (hB : B ≤ w.heap.size)
    (h : ∀ v' w', Hid (Own w' B v' (xs ++ ys)) → Below B w w' → K (a.put dst v') w') :
    if Region.wanted o (yielded ops a.tmps) = true then Oper.wp P o a w K Q else E := by
  subst hdst
  have hw : Region.wanted o (yielded ops a.tmps) = true := by simp [Region.wanted, hgd]
  rw [if_pos hw]
  obtain ⟨i0, hi, hz0, hz1, hz2⟩ := info_parts hinfo
  obtain ⟨v', w', hrun, h2, h3⟩ := run_app (ty := o.type) ht hi hz0 hz1 hz2 hown (c := c) hsrc hlen hB
  unfold Oper.wp execOp
  simp only [ho, resolve, invoke, builtin, Sem.run_bind, Sem.run_pure, Result.andThen_ok, List.map_toArray, List.map_cons, List.map_nil, hs, hx, hrun]
  exact h v' w' h2 h3
end
/-- bytes of the call's own: their address and room -/
theorem _root_.Go.Proofs.Ytpdihniimnoeoaa.Wd.Own.at_ {w : World} {B : Nat} {v : Value} {xs : List UInt8} (h : Own w B v xs) : ∃ A c, v = .slice A xs.length c ∧ xs.length ≤ c ∧ Src w A xs.length xs ∧ ∀ x, A = some x → B ≤ x.block := by
  obtain ⟨A, c, rfl, hc, hs⟩ := h.src
  refine ⟨A, c, rfl, hc, hs, fun x hx => ?_⟩
  subst hx
  obtain ⟨_, ⟨h0, _⟩ | ⟨g, cap, cur, hv, hB, _⟩⟩ := h
  · cases h0
  · injection hv with hv _ _
    injection hv with hv
    subst hv
    exact hB

theorem _root_.Go.Proofs.Ytpdihniimnoeoaa.Wd.Own.but {S : List Nat} {w w' : World} {B : Nat} {v : Value} {xs : List UInt8} (h : Own w B v xs) (k : But S w w') (hS : ∀ i ∈ S, i < B) : Own w' B v xs := by
  obtain ⟨hl, h0 | ⟨g, cap, cur, hv, hg, hh, r⟩⟩ := h
  · exact ⟨hl, .inl h0⟩
  · have hlt := Blk.lt (t := 5) (cs := cur) hh
    exact ⟨hl, .inr ⟨g, cap, cur, hv, hg, (k.block g hlt (fun hm => by have := hS g hm; omega)).trans hh, r⟩⟩

/-- the document's queue at block y, its bytes in blocks from Z on -/
def Rr (w : World) (y R Z : Nat) (bs : List UInt8) : Prop :=
  ∃ A c, Blk w y 36 #[.slice A bs.length c, .int .i64 (R : Int)] ∧ bs.length ≤ c ∧ Src w A bs.length bs ∧ (∀ x, A = some x → Z ≤ x.block) ∧ bs.length ≤ R
theorem Rr.but {S : List Nat} {w w' : World} {y R Z : Nat} {bs : List UInt8} (h : Rr w y R Z bs) (k : But S w w') (hy : y ∉ S) (hZ : ∀ i ∈ S, i < Z) : Rr w' y R Z bs := by
  obtain ⟨A, c, h1, h2, h3, h4, h5⟩ := h
  exact ⟨A, c, h1.but k hy, h2, h3.but k (fun _ x hx hm => by have := hZ _ hm; have := h4 x hx; omega), h4, h5⟩
/-- turned in a block that came later -/
theorem Rr.later {g : Nat} {w w' : World} {y R Z : Nat} {bs : List UInt8} (h : Rr w y R Z bs) (k : But [g] w w') (hg : w.heap.size ≤ g) : Rr w' y R Z bs := by
  obtain ⟨A, c, h1, h2, h3, h4, h5⟩ := h
  have h1l := h1.lt
  refine ⟨A, c, h1.but k (by simp; omega), h2, h3.but k (fun h0 x hx => ?_), h4, h5⟩
  obtain ⟨ad, e, hlt, _⟩ := h3.2 h0
  rw [hx] at e
  injection e with e
  subst e
  simp; omega
theorem Rr.mono {w : World} {y R Z Z' : Nat} {bs : List UInt8} (h : Rr w y R Z bs) (hZ : Z' ≤ Z) : Rr w y R Z' bs := by
  obtain ⟨A, c, h1, h2, h3, h4, h5⟩ := h
  exact ⟨A, c, h1, h2, h3, fun x hx => Nat.le_trans hZ (h4 x hx), h5⟩
theorem Rr.same {w w' : World} {y R Z : Nat} {bs : List UInt8} (h : Rr w y R Z bs) (k : But [] w w') : Rr w' y R Z bs := h.but k (by simp) (by simp)

theorem room_minmax (room M1 : Int) (h : M1 = if (65536 : Int) < room then 65536 else room) : ((roomR room : Nat) : Int) = if (0 : Int) < M1 then M1 else 0 := by
  rw [h]
  unfold roomR clampN withinI
  split
  · split <;> split <;> omega
  · split <;> split <;> omega
theorem clamp_minmax (n : Int) (k : Nat) (M1 : Int) (h : M1 = if (k : Int) < n then (k : Int) else n) : ((clampN n k : Nat) : Int) = if (0 : Int) < M1 then M1 else 0 := by
  rw [h]
  unfold clampN withinI
  split
  · split <;> split <;> omega
  · split <;> split <;> omega

theorem rnew_any (room : Int) (w : World) : Calls Try.prog 12 #[.int .i64 room] w fun e w' => e = .returned (.pointer (some ⟨w.heap.size, 0, none⟩)) ∧ Blk w' w.heap.size 36 #[.slice none 0 0, .int .i64 ((roomR room : Nat) : Int)] ∧ Below w.heap.size w w' := by
  obtain ⟨M1, hM1⟩ : ∃ M : Int, M = if (65536 : Int) < room then 65536 else room := ⟨_, rfl⟩
  have HM1 := Lib.hid hM1
  have HM2 := Lib.hid (room_minmax room M1 hM1)
  clear hM1
  generalize roomR room = R at *
  go_enter Try.func12, Try.ntmps12
  go_wp2_with (first
    | (with_reducible refine wpList_min2 (some 4) rfl rfl _ _ _ rfl room 65536 M1 rfl rfl HM1.out ?_)
    | (with_reducible refine wpList_max2 (some 5) rfl rfl _ _ _ rfl 0 M1 (R : Int) rfl rfl HM2.out ?_))
  go_ret
  exact ⟨rfl, Blk.new _ _ _, (Below.refl _ _).alloc (Nat.le_refl _) _⟩
theorem Rr.new {w : World} {y R Z : Nat} (h : Blk w y 36 #[.slice none 0 0, .int .i64 (R : Int)]) : Rr w y R Z [] :=
  ⟨none, 0, h, Nat.le_refl _, Src.nil w, (fun x hx => by cases hx), Nat.zero_le _⟩

set_option maxHeartbeats 1000000 in
theorem rsee_any (y R Z : Nat) (bs : List UInt8) (n : Int) (w : World) (h : Rr w y R Z bs) (hR : R ≤ 65536) :
    Calls Try.prog 18 #[.pointer (some ⟨y, 0, none⟩), .int .i64 n] w fun e w' => ∃ v, e = .returned v ∧ Own w' w.heap.size v (bs.take (clampN n bs.length)) ∧ Below w.heap.size w w' := by
  obtain ⟨A, c, hb, hc, hs, _, hbR⟩ := h
  have hk := clampN_le n bs.length
  obtain ⟨M1, hM1⟩ : ∃ M : Int, M = if (bs.length : Int) < n then (bs.length : Int) else n := ⟨_, rfl⟩
  have HM1 := Lib.hid hM1
  have HM2 := Lib.hid (clamp_minmax n bs.length M1 hM1)
  have HS := Lib.hid (hs.take hk)
  have hsl := fun w' => slice_to und8s size8 A bs.length c w' (clampN n bs.length) (by omega)
  have hc0 : w.cell? ⟨y, 0, none⟩ = some (.slice A bs.length c) := by rw [hb.cell]; rfl
  have hlt := hb.lt
  have HD := Lib.hid (show Below w.heap.size w w.drew from (Below.refl _ _).drew)
  clear hb hs hM1
  generalize clampN n bs.length = k at *
  generalize bs.take k = out at *
  generalize bs.length = m at *
  have hcells : ∀ w', Below w.heap.size w w' → w'.cell? ⟨y, 0, none⟩ = some (.slice A m c) := fun w' h => (h.cell (p := ⟨y, 0, none⟩) hlt).trans hc0
  have HC := Lib.hid hcells
  clear hcells
  go_enter Try.func18, Try.ntmps18
  go_wp2_with fail
  go_region_held_law (fun w' => w'.cell? ⟨y, 0, none⟩ = some (.slice A m c)) (first | exact hc0 | exact k2 | exact HC.out _ ((HD.out).alloc (by exact Nat.le_refl _) _))
    (first
      | (refine step_min2 (some 16) rfl rfl _ _ _ rfl n (m : Int) M1 rfl rfl HM1.out ?_)
      | (refine step_max2 (some 17) rfl rfl _ _ _ rfl 0 M1 (k : Int) rfl rfl HM2.out ?_)
      | (refine step_app_b (some 19) rfl rfl (.tmp 5) (.tmp 18) 29 rfl und8s info8 w.heap.size _ [] rfl (Own.empty w.drew _ (Nat.le_refl _)) A k c out rfl (HS.out.below ((HD.out).alloc (by exact Nat.le_refl _) _)) (by simp; omega) (by simp) ?_; intro v2 w2 HO2 hb2; rw [List.nil_append] at HO2; have HB2 := Lib.hid (((HD.out).alloc (o := .cells #[] 5) (by exact Nat.le_refl _)).trans hb2); have k2 := HC.out _ HB2.out; clear hb2))
  all_goals (
    clear k2 hc0 hsl
    go_wp2_with fail
    go_ret
    exact ⟨_, rfl, HO2.out, HB2.out⟩)

theorem set2_0 (a b x : Value) : (#[a, b] : Array Value).setIfInBounds 0 x = #[x, b] := by simp
set_option maxHeartbeats 1000000 in
theorem rpop_any (y R Z : Nat) (bs : List UInt8) (n : Int) (w : World) (h : Rr w y R Z bs) (hR : R ≤ 65536) (hy : y < Z) :
    Calls Try.prog 16 #[.pointer (some ⟨y, 0, none⟩), .int .i64 n] w fun e w' => ∃ v, e = .returned v ∧ Own w' w.heap.size v (bs.take (clampN n bs.length)) ∧ Rr w' y R Z (bs.drop (clampN n bs.length)) ∧ But [y] w w' := by
  have HSee := Lib.hid (rsee_any y R Z bs n w h hR)
  obtain ⟨A, c, hb, hc, hs, hZ, hbR⟩ := h
  have hk := clampN_le n bs.length
  have HS := Lib.hid (show Src w (slid A c (clampN n bs.length)) (bs.length - clampN n bs.length) (bs.drop (clampN n bs.length)) from by
    have := hs.cut (m := c) (l := clampN n bs.length) (hi := bs.length) hk (Nat.le_refl _) hc
    rwa [List.take_of_length_le (Nat.le_refl _)] at this)
  have hsl := fun w' => slice_from und8s size8 A bs.length c w' (clampN n bs.length) hk
  have HT := Lib.hid (show (bs.take (clampN n bs.length)).length = clampN n bs.length from by rw [List.length_take]; omega)
  have HD := Lib.hid (show (bs.drop (clampN n bs.length)).length = bs.length - clampN n bs.length from List.length_drop)
  have hlt := hb.lt
  have hlt2 := Lib.hid (show 0 < bs.length → ∀ x, A = some x → x.block < w.heap.size from fun h0 x hx => by
    obtain ⟨ad, e, hl, _⟩ := hs.2 h0
    rw [hx] at e
    injection e with e
    subst e
    exact hl)
  have HB := Lib.hid hb
  have HZ := Lib.hid hZ
  clear hs hb hZ
  generalize bs.take (clampN n bs.length) = out at *
  generalize bs.drop (clampN n bs.length) = rest at *
  generalize clampN n bs.length = k at *
  generalize bs.length = m at *
  go_enter Try.func16, Try.ntmps16
  go_wp2_with fail
  refine HSee.out.mono ?_
  rintro e w1 ⟨v, rfl, hO, hbel⟩
  obtain ⟨A1, c1, rfl, -⟩ := hO.at_
  have HO := Lib.hid hO
  rw [HT.out] at HO
  rw [HT.out]
  have hb1 := HB.out.below hbel hlt
  have hc0 : w1.cell? ⟨y, 0, none⟩ = some (.slice A m c) := by rw [hb1.cell]; rfl
  have hf0 := hb1.frozen 0
  have HB1 := Lib.hid hb1
  have HL := Lib.hid hbel
  have HS1 := Lib.hid (HS.out.below hbel)
  clear hO hb1 hbel HSee HB
  go_wp2_with fail
  go_ret
  have HBut : But [y] w w1 := But.of_below HL.out [y]
  refine ⟨_, rfl, ?_, ⟨slid A c k, c - k, ?_, by rw [HD.out]; omega, ?_, ?_, by rw [HD.out]; omega⟩, HBut.set_ (p := ⟨y, 0, none⟩) (.inl (by simp)) _⟩
  · have := HO.out
    unfold Own at this ⊢
    rw [HT.out] at this ⊢
    exact ownsRow_setCell_below this (a := ⟨y, 0, none⟩) hlt _
  · have h := HB1.out.set_ 0 (.slice (slid A c k) (m - k) (c - k))
    rw [set2_0] at h
    rw [HD.out]
    exact h
  · rw [HD.out]
    exact HS1.out.but ((But.refl [y] w1).set_ (p := ⟨y, 0, none⟩) (.inl (by simp)) _) (fun _ x hx => by
      obtain ⟨z, hz, hzx⟩ := slid_block hx
      have := HZ.out z hz
      simp; omega)
  · intro x hx
    obtain ⟨z, hz, hzx⟩ := slid_block hx
    have := HZ.out z hz
    omega

set_option maxHeartbeats 1000000 in
theorem rpush_any (y R Z : Nat) (bs : List UInt8) (A : Option Addr) (n c : Nat) (b : List UInt8) (w : World) (h : Rr w y R Z bs) (hR : R ≤ 65536) (hs : Src w A n b) (hnc : n ≤ c) :
    Calls Try.prog 14 #[.pointer (some ⟨y, 0, none⟩), .slice A n c] w fun e w' =>
      e = .returned (.int .i64 ((roomN R bs.length n : Nat) : Int)) ∧ Rr w' y R w.heap.size (bs ++ b.take (roomN R bs.length n)) ∧ But [y] w w' := by
  have hz0 : w.heap.size = w.drew.heap.size := rfl
  obtain ⟨A0, c0, hb, hc0, hs0, _, hbR⟩ := h
  have hkn : roomN R bs.length n ≤ n := Nat.min_le_left _ _
  have hkR : roomN R bs.length n ≤ R - bs.length := Nat.min_le_right _ _
  have HMin := Lib.hid (show ((roomN R bs.length n : Nat) : Int) = if ((R - bs.length : Nat) : Int) < (n : Int) then ((R - bs.length : Nat) : Int) else (n : Int) from by
    unfold roomN; split <;> omega)
  have hwr : IntKind.i64.wrap ((R : Int) - (bs.length : Int)) = ((R - bs.length : Nat) : Int) := by rw [IntWalk.i64_in _ (by omega)]; omega
  have HS := Lib.hid (hs.take hkn)
  have HS0 := Lib.hid hs0
  have HLn := Lib.hid (show (bs ++ b.take (roomN R bs.length n)).length = bs.length + roomN R bs.length n from by rw [List.length_append, List.length_take, hs.1]; omega)
  have hsl := fun w' => slice_to und8s size8 A n c w' (roomN R bs.length n) (by omega)
  have q0 : w.cell? ⟨y, 0, none⟩ = some (.slice A0 bs.length c0) := by rw [hb.cell]; rfl
  have q1 : w.cell? ⟨y, 1, none⟩ = some (.int .i64 (R : Int)) := by rw [hb.cell]; rfl
  have hlt := hb.lt
  have HB := Lib.hid hb
  clear hb hs hs0
  have HBL := Lib.hid (rfl : bs.length = bs.length)
  generalize hbl : b.take (roomN R bs.length n) = bk at *
  clear hbl
  generalize roomN R bs.length n = k at *
  generalize hm : bs.length = m at *
  have HM := Lib.hid hm
  clear hm HBL
  go_enter Try.func14, Try.ntmps14
  go_wp2_with fail
  go_region_held_law (fun w' => w'.cell? ⟨y, 0, none⟩ = some (.slice A0 m c0) ∧ w'.cell? ⟨y, 1, none⟩ = some (.int .i64 (R : Int))) (exact ⟨q0, q1⟩)
    ((refine step_min2 (some 18) rfl rfl _ _ _ rfl (n : Int) ((R - m : Nat) : Int) (k : Int) rfl rfl HMin.out ?_))
  have HL1 := Lib.hid (show But [y] w w.drew from (But.refl [y] w).drew)
  have HB1 := Lib.hid (show Blk w.drew y _ _ from HB.out)
  have HS1 := Lib.hid (show Src w.drew A k bk from HS.out)
  have HS01 := Lib.hid (show Src w.drew A0 m bs from HS0.out)
  have hz1 : w.heap.size = w.drew.heap.size := rfl
  have q2 : w.drew.cell? ⟨y, 0, none⟩ = some (.slice A0 m c0) := q0
  have hlt1 : y < w.drew.heap.size := hlt
  clear HB HS HS0 q0 q1 hz1
  have HZ0 := Lib.hid hz0
  clear hz0
  generalize w.drew = w1 at *
  go_wp2_with fail
  have hB0 : Below w1.heap.size w1 w1.drew := (Below.refl _ _).drew
  have HA0 := Lib.hid (show Below w1.heap.size w1 (w1.drew.alloc (.cells #[] 5)) from hB0.alloc (Nat.le_refl _) _)
  clear hB0
  go_region_law (first
    | (refine step_app_b (some 25) rfl rfl (.tmp 20) (.tmp 24) 29 rfl und8s info8 w1.heap.size _ [] rfl (Own.empty w1.drew _ (Nat.le_refl _)) A0 m c0 bs rfl (HS01.out.below HA0.out) (by simp; omega) (by simp) ?_; intro v2 w2 HO2 hb2; rw [List.nil_append] at HO2; have HB2 := Lib.hid (HA0.out.trans hb2); obtain ⟨A2, c2, rfl, -⟩ := HO2.out.at_; rw [HM.out]; clear hb2)
    | (refine step_app_b (some 29) rfl rfl (.tmp 25) (.tmp 28) 29 rfl und8s info8 w1.heap.size _ bs (by rw [HM.out]; rfl) HO2.out A k c bk rfl (HS1.out.below HB2.out) (by have := HM.out; omega) (HB2.out.size) ?_; intro v3 w3 HO3 hb3; have HB3 := Lib.hid (HB2.out.trans hb3); obtain ⟨A3, c3, rfl, hc3, hs3, hA3⟩ := HO3.out.at_; have q3 : w3.cell? ⟨y, 0, none⟩ = some (.slice A0 m c0) := (HB3.out.cell (p := ⟨y, 0, none⟩) hlt1).trans q2; have hfr3 : w3.frozen? ⟨y, 0, none⟩ = false := (HB3.out.frozen (p := ⟨y, 0, none⟩) hlt1).trans (HB1.out.frozen 0); have HS3 := Lib.hid hs3; have HA3 := Lib.hid hA3; clear hb3 hs3 hA3))
  all_goals (
    have hL3 : But [y] w1 w3 := But.of_below HB3.out [y]
    have hB4 := HB1.out.below HB3.out hlt1
    have HB4 := Lib.hid hB4
    have HL3 := Lib.hid hL3
    have hnA := Lib.hid (show ∀ x, A3 = some x → w.heap.size ≤ x.block from fun x hx => by rw [HZ0.out]; exact HA3.out x hx)
    clear q2 q3 hfr3 hB4 hL3 hsl
    go_wp2_with fail
    go_ret
    refine ⟨rfl, ⟨A3, c3, ?_, hc3, ?_, hnA.out, by rw [HLn.out]; omega⟩, HL1.out.trans (HL3.out.set_ (p := ⟨y, 0, none⟩) (.inl (by simp)) _)⟩
    · have h := HB4.out.set_ 0 (.slice A3 (bs.length + bk.length) c3)
      rw [set2_0] at h
      rw [List.length_append]
      exact h
    · exact HS3.out.but ((But.refl [y] w3).set_ (p := ⟨y, 0, none⟩) (.inl (by simp)) _) (fun _ x hx => by
        have := hnA.out x hx
        simp; omega))
end Go.Proofs.Ytpdihniimnoeoaa.Rg
