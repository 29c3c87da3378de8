/-
  'A queue, call by call' (hagioscopelaw05.RingPlays) holds: whatever the room and the calls, the call returns true and leaves what was there as it was. No condition.
-/
import Derived.Test.YtpdihniimnoeoaaRgFew
import Derived.Test.YtpdihniimnoeoaaRgSmall
import Derived.Test.YtpdihniimnoeoaaRgRef
import Derived.Deep.QuietTactic
import Derived.BigQuiet
import Derived.Deep.RegionHeld
namespace Go.Proofs.Ytpdihniimnoeoaa.ringPlays
open Go.ChangeShapes Go.WideShapes Go.ChangeAt Go.RowKit
open Go.ChangeMaps (open_string shut_string)
open Go.Proofs.Ytpdihniimnoeoaa.Wd Go.Proofs.Ytpdihniimnoeoaa.Rg Go.Proofs.Ytpdihniimnoeoaa.Lift


theorem quietL {P : Program} {f : FuncId} {args : Array Value} {w : World} {n : Nat} {v : Value} (h : Calls P f args (w.drewN n) fun e w' => e = .returned v ∧ w.drewN n = w') :
    Calls P f args (w.drewN n) fun e w'' => e = .returned v ∧ ∃ m, w'' = w.drewN m := h.mono fun _ _ ⟨he, hm⟩ => ⟨he, n, hm.symm⟩
theorem full_eq (g p R : Nat) (bs : List UInt8) (w : World) (h : Rg w g p R bs) (hR : R ≤ 65536) : Calls Try.prog 21 #[.pointer (some ⟨g, 0, none⟩)] w fun e w' => e = .returned (.bool ((bs.length : Int) == (R : Int))) ∧ ∃ k, w' = w.drewN k := by
  have e1 : fullB R bs.length = ((bs.length : Int) == (R : Int)) := by
    unfold fullB
    rw [Bool.eq_iff_iff, beq_iff_eq, decide_eq_true_iff]
    omega
  rw [← e1]
  exact full_any g p R bs w h hR
/-- bytes that were appended onto none: one block of them, or none -/
theorem own_block {w : World} {B : Nat} {v : Value} {xs : List UInt8} (h : Own w B v xs) (hB : B < w.heap.size) : ∃ gi A c, v = .slice A xs.length c ∧ B ≤ gi ∧ gi < w.heap.size ∧ xs.length ≤ c ∧ (0 < xs.length → A = some ⟨gi, 0, none⟩) ∧ (0 < xs.length → ∃ cur, Blk w gi 5 cur ∧ xs.length ≤ cur.size) := by
  obtain ⟨_, ⟨rfl, h0⟩ | ⟨g, cap, cur, rfl, hg, hh, hc, _, hs, _⟩⟩ := h
  · exact ⟨B, none, 0, by rw [h0], Nat.le_refl _, hB, by omega, fun hp => absurd hp (by omega), fun hp => absurd hp (by omega)⟩
  · exact ⟨g, _, cap, rfl, hg, Blk.lt (t := 5) (cs := cur) hh, hc, fun _ => rfl, fun _ => ⟨cur, hh, by omega⟩⟩
/-- the block that is written over, as it stands -/
def Buf (w : World) (gi m : Nat) : Prop := 0 < m → ∃ cur, Blk w gi 5 cur ∧ m ≤ cur.size
theorem Buf.but {S : List Nat} {w w' : World} {gi m : Nat} (h : Buf w gi m) (k : But S w w') (hg : gi ∉ S) : Buf w' gi m := fun h0 => by
  obtain ⟨cur, hb, hm⟩ := h h0
  exact ⟨cur, hb.but k hg, hm⟩
theorem Buf.set_ {w : World} {gi m : Nat} (h : Buf w gi m) (j : Nat) (v : Value) : Buf (w.setCell ⟨gi, j, none⟩ v) gi m := fun h0 => by
  obtain ⟨cur, hb, hm⟩ := h h0
  exact ⟨_, hb.set_ j v, by rw [Array.size_setIfInBounds]; exact hm⟩
/-- the document's queue, its bytes in another block than gi -/
def RrN (w : World) (y R Z gi : Nat) (bs : List UInt8) : Prop :=
  ∃ A c, Blk w y 36 #[.slice A bs.length c, .int .i64 (R : Int)] ∧ bs.length ≤ c ∧ Src w A bs.length bs ∧ (∀ x, A = some x → Z ≤ x.block) ∧ bs.length ≤ R ∧ (0 < bs.length → ∀ x, A = some x → x.block ≠ gi)
theorem RrN.rr {w : World} {y R Z gi : Nat} {bs : List UInt8} (h : RrN w y R Z gi bs) : Rr w y R Z bs := by
  obtain ⟨A, c, h1, h2, h3, h4, h5, _⟩ := h
  exact ⟨A, c, h1, h2, h3, h4, h5⟩
theorem Rr.apart {w w' : World} {y R Z gi : Nat} {bs : List UInt8} (h : Rr w y R Z bs) (k : But [] w w') (hg : w.heap.size ≤ gi) : RrN w' y R Z gi bs := by
  obtain ⟨A, c, h1, h2, h3, h4, h5⟩ := h
  refine ⟨A, c, h1.but k (by simp), h2, h3.same k, h4, h5, fun h0 x hx => ?_⟩
  obtain ⟨ad, e, hlt, _⟩ := h3.2 h0
  rw [hx] at e
  injection e with e
  subst e
  omega
theorem Rr.apart_above {w : World} {y R Z Z' gi : Nat} {bs : List UInt8} (h : Rr w y R Z' bs) (hg : gi < Z') (hZ : Z ≤ Z') : RrN w y R Z gi bs := by
  obtain ⟨A, c, h1, h2, h3, h4, h5⟩ := h
  exact ⟨A, c, h1, h2, h3, fun x hx => Nat.le_trans hZ (h4 x hx), h5, fun _ x hx => by have := h4 x hx; omega⟩
theorem RrN.same {w w' : World} {y R Z gi : Nat} {bs : List UInt8} (h : RrN w y R Z gi bs) (k : But [] w w') : RrN w' y R Z gi bs := by
  obtain ⟨A, c, h1, h2, h3, h4⟩ := h
  exact ⟨A, c, h1.but k (by simp), h2, h3.same k, h4⟩
theorem RrN.turned {w w' : World} {y R Z gi : Nat} {bs : List UInt8} (h : RrN w y R Z gi bs) (k : But [gi] w w') (hy : y ≠ gi) : RrN w' y R Z gi bs := by
  obtain ⟨A, c, h1, h2, h3, h4, h5, h6⟩ := h
  exact ⟨A, c, h1.but k (by simp [hy]), h2, h3.but k (fun h0 x hx => by simpa using h6 h0 x hx), h4, h5, h6⟩

set_option maxRecDepth 100000 in
theorem walk_out (w : World) (room : Int) (A : Option Addr) (ln cap : Nat) (l : List Cl) (hn : l.length = ln) (hc : ln ≤ 9223372036854775807) (hl : SrcL w A l) (hf : fewB l = false) :
    Calls Try.prog 3 #[.int .i64 room, .slice A ln cap] w fun e w' => e = .returned (.bool true) ∧ Below w.heap.size w w' := by
  have HF := Lib.hid hf
  clear hf
  go_enter Try.func3, Try.ntmps3
  go_wp2_with fail
  refine (small_any w).mono ?_
  rintro e w1 ⟨rfl, hb1⟩
  go_wp2_with fail
  refine (few_any w1 A ln cap l hn hc (hl.below hb1)).mono ?_
  rintro e w2 ⟨rfl, rfl⟩
  rw [HF.out]
  go_wp2_with fail
  refine (new_held room w w1 hb1 hb1.size).mono ?_
  rintro e w2 ⟨g, p, rfl, hr, -⟩
  have HR := Lib.hid hr
  clear hr
  go_wp2_with fail
  refine (rnew_any room w2).mono ?_
  rintro e w3 ⟨rfl, -, hb3⟩
  have HL := Lib.hid (HR.out.bel.trans (hb3.mono HR.out.hB))
  clear hb3
  go_wp2_with fail
  go_ret
  exact ⟨rfl, HL.out⟩

set_option maxRecDepth 100000 in
set_option maxHeartbeats 1000000 in
theorem walk_few (w : World) (room : Int) (A : Option Addr) (ln cap : Nat) (l : List Cl) (hn : l.length = ln) (hc : ln ≤ 9223372036854775807) (hl : SrcL w A l) (hf : fewB l = true) :
    Calls Try.prog 3 #[.int .i64 room, .slice A ln cap] w fun e w' => e = .returned (.bool true) ∧ Below w.heap.size w w' := by
  have HF := Lib.hid hf
  have hln := (few_len hf).1
  rw [hn] at hln
  have HL := Lib.hid hl
  have HN := Lib.hid hn
  have hR := roomR_le room
  clear hf hl hn
  go_enter Try.func3, Try.ntmps3
  go_wp2_with fail
  refine (small_any w).mono ?_
  rintro e w1 ⟨rfl, hb1⟩
  go_wp2_with fail
  refine (few_any w1 A ln cap l HN.out hc (HL.out.below hb1)).mono ?_
  rintro e w2 ⟨rfl, rfl⟩
  rw [HF.out]
  go_wp2_with fail
  refine (new_held room w w1 hb1 hb1.size).mono ?_
  rintro e w2 ⟨g, p, rfl, hr, -, hg, hp⟩
  have HR := Lib.hid hr
  have hsz := hb1.size
  have hltr := hr.rg.lt
  clear hr hb1
  go_wp2_with fail
  refine (rnew_any room w2).mono ?_
  rintro e w3 ⟨rfl, hy3, hb3⟩
  generalize roomR room = R at *
  have HX3 := Lib.hid (HR.out.same (But.of_below hb3 []))
  obtain ⟨y, hyy⟩ : ∃ y, y = w2.heap.size := ⟨_, rfl⟩
  rw [← hyy] at hy3
  rw [← hyy]
  have hyZ : y < w3.heap.size := hy3.lt
  have HY3 := Lib.hid (show Rr w3 y R w3.heap.size [] from Rr.new hy3)
  have hyw : w.heap.size ≤ y := by have := HR.out.hB; omega
  have hgy : g < y ∧ p < y := by omega
  obtain ⟨Z, hZ⟩ : ∃ Z, Z = w3.heap.size := ⟨_, rfl⟩
  rw [← hZ] at hyZ HY3
  have HZ3 : Z ≤ w3.heap.size := by omega
  clear hy3 hb3 hZ HR
  have HYY := Lib.hid hyy
  clear hyy
  go_wp2_with fail
  go_loopw [9] (fun i wr => ∃ (k : Nat) (bs : List UInt8), k ≤ ln ∧ i = .int .i64 (k : Int) ∧ Hid (Held w.heap.size w wr g p R bs) ∧ Hid (Rr wr y R Z bs) ∧ Z ≤ wr.heap.size) (fun i _ => ln - (intOf i).toNat)
  case atStart => exact ⟨0, [], Nat.zero_le _, rfl, HX3, HY3, HZ3⟩
  case round =>
    clear HX3 HY3 HZ3
    obtain ⟨k, bs, hk, rfl, HX, HY, hZr⟩ := hrel
    by_cases hlt : k < ln
    · have hki : (k : Int) < (ln : Int) := by omega
      obtain ⟨x, ag, ao, hx, hok, rfl, hag, hc0, hc1, hc2⟩ := HL.out.get (by rw [HN.out]; exact hlt) HX.out.bel
      have HOK := Lib.hid hok
      clear hok hx
      have hbR := HX.out.le
      rcases Bool.eq_false_or_eq_true (x.which.tmod 3 == 0) with hw | hw
      · have hmb := HOK.out.small
        have HSB := Lib.hid HOK.out.src
        have HNC := Lib.hid HOK.out.nc
        have HC := Lib.hid (fun w' (h : Below w.heap.size w w') => show w'.cell? ⟨ag, ao + k * 3 + 1, none⟩ = some (.slice x.A x.n x.c) from (h.cell (p := ⟨ag, _, none⟩) hag).trans ((HX.out.bel.cell (p := ⟨ag, _, none⟩) hag).symm.trans hc1))
        have hbm : x.b.length = x.n := HOK.out.src.1
        clear HOK hc2
        obtain ⟨XA, hXA⟩ : ∃ A, A = x.A := ⟨_, rfl⟩
        obtain ⟨m, hxm⟩ : ∃ m, m = x.n := ⟨_, rfl⟩
        obtain ⟨xc, hxc⟩ : ∃ c, c = x.c := ⟨_, rfl⟩
        obtain ⟨xb, hxb⟩ : ∃ b, b = x.b := ⟨_, rfl⟩
        rw [← hXA, ← hxm, ← hxc] at hc1 HC
        rw [← hXA, ← hxm, ← hxb] at HSB
        rw [← hxm, ← hxc] at HNC
        rw [← hxb, ← hxm] at hbm
        rw [← hxm] at hmb
        clear hXA hxm hxc hxb
        have HBM := Lib.hid hbm
        clear hbm
        obtain ⟨s, hs⟩ : ∃ s : ByteArray, (⟨xb.toArray⟩ : ByteArray) = s := ⟨_, rfl⟩
        have HSE := Lib.hid hs
        clear hs
        have hbt0 : But [] wr (wr.alloc (.cells #[] 5)) := (But.refl [] wr).alloc _
        have hown0 := Lib.hid (Own.empty wr wr.heap.size (Nat.le_refl _))
        have hsrc0 := Lib.hid ((HSB.out.below HX.out.bel).same hbt0)
        have HX3 := Lib.hid (HX.out.same hbt0)
        have HY3 := Lib.hid (HY.out.same hbt0)
        have hltr2 := HX.out.rg.lt
        have HBT0 := Lib.hid hbt0
        have hsz0 : wr.heap.size < (wr.alloc (.cells #[] 5)).heap.size := by simp
        have hc1a := HC.out _ HX3.out.bel
        clear hbt0
        go_wp2_with (at_builtin; refine wpList_app rfl (.tmp 73) (.tmp 78) 29 rfl und8s info8 wr.heap.size _ [] rfl hown0.out XA m xc xb rfl hsrc0.out (by simp; omega) (by simp) ?_; intro v4 w4 HO4 hb4)
        rw [List.nil_append] at HO4
        have hsz4 : wr.heap.size < w4.heap.size := Nat.lt_of_lt_of_le hsz0 hb4.size
        obtain ⟨gi, Ai, ci, rfl, hgi, hgi4, hlc, hAgi, hBf⟩ := own_block HO4.out hsz4
        rw [HBM.out] at hlc hAgi hBf
        rw [HBM.out]
        have hbt4 : But [] wr w4 := But.of_below (((Below.refl wr.heap.size wr).alloc (Nat.le_refl _) _).trans hb4) []
        have HX4 := Lib.hid (HX.out.same hbt4)
        have HY4 := Lib.hid (HY.out.same hbt4)
        have hZ4 : Z ≤ w4.heap.size := Nat.le_trans hZr hbt4.size
        obtain ⟨Ai', ci', hAi', -, hsi, -⟩ := HO4.out.at_
        injection hAi' with e1 e2 e3
        subst e1; subst e3
        rw [HBM.out] at hsi
        have HSI := Lib.hid hsi
        have HAgi := Lib.hid hAgi
        have HBf := Lib.hid hBf
        have hd4 : w4.cell? ⟨ag, ao + k * 3 + 1, none⟩ = some (.slice XA m xc) := HC.out _ HX4.out.bel
        have HAf := Lib.hid (show 0 < m → ∀ z, Ai = some z → z.block = gi from fun h0 z hz => by rw [HAgi.out h0] at hz; injection hz with hz; subst hz; rfl)
        clear hsi hAgi hBf hbt4 hb4 HO4 e2 hc0 hc1 hc1a hown0 hsrc0 HX3 HY3 HBT0 hsz0
        go_wp2_with fail
        go_region_held (fun w' => w'.cell? ⟨ag, ao + k * 3 + 1, none⟩ = some (.slice XA m xc)) (first | exact hd4 | exact hd5 | exact hd6)
          (first
            | (go_at_call 13; refine (push_held (HX4.out.drewN 1) hR Ai m ci xb (by exact HSI.out) hlc (fun h0 z hz => by have := HAf.out h0 z hz; omega)).mono ?_; rintro e w5 ⟨rfl, hx5, hb5⟩; have HX5' := Lib.hid hx5; have hb5' : But [g, p] w4 w5 := ((But.refl [g, p] w4).drewN 1).trans hb5; have HY5' := Lib.hid (HY4.out.but hb5' (by simp; omega) (by simp; omega)); have HSI5 := Lib.hid (HSI.out.but hb5' (fun h0 z hz => by have := HAf.out h0 z hz; simp; omega)); have hd5 := HC.out _ hx5.bel; have hZ5 : Z ≤ w5.heap.size := Nat.le_trans hZ4 hb5'.size; have hgi5 : gi < w5.heap.size := Nat.lt_of_lt_of_le hgi4 hb5'.size; have HBf5 := Lib.hid (show Buf w5 gi m from fun h0 => by obtain ⟨cur, h1, h2⟩ := HBf.out h0; exact ⟨cur, h1.but hb5' (by simp; omega), h2⟩); clear hx5 hb5 hb5')
            | (go_at_call 14; refine (rpush_any y R Z bs XA m xc xb _ HY5'.out hR (HSB.out.below HX5'.out.bel) HNC.out).mono ?_; rintro e w6 ⟨rfl, hy6, hb6⟩; have hx6 := HX5'.out.beside hb6 (by simp; omega) (by simp; omega) (HX5'.out.bel.trans (hb6.below (by simp; omega) HX5'.out.hB)); have hd6 := HC.out _ hx6.bel; have k1 := conv8 (c := ci) (HSI5.out.but hb6 (fun h0 z hz => by have := HAf.out h0 z hz; simp; omega)); have k2 := conv8 (c := xc) (HSB.out.below hx6.bel); rw [HSE.out] at k1 k2; have HX5 := Lib.hid hx6; have HYN := Lib.hid (Rr.apart_above (gi := gi) (Z := Z) hy6 hgi5 hZ5); have HZ5 : Z ≤ w6.heap.size := Nat.le_trans hZ5 hb6.size; have HBuf := Lib.hid (HBf5.out.but hb6 (by simp; omega)); clear hx6 hy6 hb6))
        all_goals (
        clear k1 k2 hd4 hd5 hd6 HX4 HY4 HX5' HY5' HSI HSI5 HBf HBf5 HC HSE HAf
        generalize bs ++ xb.take (roomN R bs.length m) = bs5 at *
        go_wp2_with fail
        go_loopw [11] (fun i wi => ∃ j : Nat, j ≤ m ∧ i = .int .i64 (j : Int) ∧ Hid (Held w.heap.size w wi g p R bs5) ∧ Hid (RrN wi y R Z gi bs5) ∧ Z ≤ wi.heap.size ∧ Hid (Buf wi gi m)) (fun i _ => m - (intOf i).toNat)
        case atStart => exact ⟨0, Nat.zero_le _, rfl, HX5, HYN, HZ5, HBuf⟩
        case round =>
        clear HX5 HYN HZ5 HBuf
        obtain ⟨j, hj, rfl, HX5, HYN, HZ5, HBuf⟩ := hrel
        by_cases hlt2 : j < m
        · have hji : (j : Int) < (m : Int) := by omega
          obtain ⟨cur, hcb, hcm⟩ := HBuf.out (by omega)
          obtain rfl := HAgi.out (by omega)
          obtain ⟨cv, hcj⟩ : ∃ v, wr.cell? ⟨gi, j, none⟩ = some v := ⟨cur[j]'(by omega), by rw [hcb.cell]; exact Array.getElem?_eq_getElem _⟩
          have hfj := hcb.frozen j
          clear hcb hcm
          go_wp2_with fail
          go_roundw
          case rel =>
            have hbt : But [gi] wr (wr.setCell ⟨gi, j, none⟩ (.int .u8 7)) := (But.refl _ _).set_ (p := ⟨gi, j, none⟩) (.inl (by simp)) _
            exact ⟨j + 1, by omega, by go_num, HX5.out.beside hbt (by simp; omega) (by simp; omega) (HX5.out.bel.setCell (p := ⟨gi, j, none⟩) (by show w.heap.size ≤ gi; omega) _), HYN.out.turned hbt (by omega), Nat.le_trans HZ5 hbt.size, HBuf.out.set_ j _⟩
          case measure => simp [intOf]; omega
        obtain rfl : j = m := by omega
        have HY5 := Lib.hid HYN.out.rr
        clear HYN HBuf
        generalize wr = w5 at *
        have hbR5 := HX5.out.le
        obtain ⟨Ay, cy, hyb, -, -, -, -⟩ := HY5.out
        have hy0 : w5.cell? ⟨y, 0, none⟩ = some (.slice Ay bs5.length cy) := by rw [hyb.cell]; rfl
        have hy1 : w5.cell? ⟨y, 1, none⟩ = some (.int .i64 (R : Int)) := by rw [hyb.cell]; rfl
        have hwr : IntKind.i64.wrap ((R : Int) - (bs5.length : Int)) = ((R - bs5.length : Nat) : Int) := by rw [IntWalk.i64_in _ (by omega)]; omega
        have HLen := fun n => quietL (len_any g p R bs5 (w5.drewN n) (HX5.out.drewN n).rg)
        have HFree := fun n => Calls.quiet_of (free_any g p R bs5 (w5.drewN n) (HX5.out.drewN n).rg hR)
        have HFull := fun n => Calls.quiet_of (full_eq g p R bs5 (w5.drewN n) (HX5.out.drewN n).rg hR)
        have HLn := Lib.hid HLen
        have HFr := Lib.hid HFree
        have HFu := Lib.hid HFull
        clear hyb HLen HFree HFull
        generalize bs5.length = m5 at *
        go_wp2_with fail
        go_quiet (first | (go_at_call 19; exact HLn.out _) | (go_at_call 20; exact HFr.out _) | (go_at_call 21; exact HFu.out _))
        go_wp2_with fail
        go_roundw
        case rel => exact ⟨k + 1, bs5, by omega, by go_num, HX5.out.drewN _, HY5.out.same ((But.refl [] w5).drewN _), by exact HZ5⟩
        case measure => simp [intOf]; omega)
      · rcases Bool.eq_false_or_eq_true (x.which.tmod 3 == 1) with hw1 | hw1
        · have HC := Lib.hid (fun w' (h : Below w.heap.size w w') => show w'.cell? ⟨ag, ao + k * 3 + 2, none⟩ = some (.int .i64 x.q) from (h.cell (p := ⟨ag, _, none⟩) hag).trans ((HX.out.bel.cell (p := ⟨ag, _, none⟩) hag).symm.trans hc2))
          obtain ⟨T, hT⟩ : ∃ T, T = bs.take (clampN x.q bs.length) := ⟨_, rfl⟩
          obtain ⟨s, hs⟩ : ∃ s : ByteArray, (⟨T.toArray⟩ : ByteArray) = s := ⟨_, rfl⟩
          have HT := Lib.hid hT
          have HSE := Lib.hid hs
          have hd1 := hc2
          clear hT hs hc1 hc2
          go_wp2_with fail
          clear hc0
          go_region_held (fun w' => w'.cell? ⟨ag, ao + k * 3 + 2, none⟩ = some (.int .i64 x.q)) (first | exact hd1 | exact hd4 | exact hd5)
            (first
              | (go_at_call 15; refine (pop_held (HX.out.drewN 1) hR x.q).mono ?_; rintro e w4 ⟨o4, rfl, hf4, hx4, hb4⟩; rw [← HT.out] at hf4; rw [← HT.out]; have k4 := conv8 (c := T.length) hf4.src; rw [HSE.out] at k4; have hd4 := HC.out _ hx4.bel; have HX4 := Lib.hid hx4; have HF4 := Lib.hid hf4; have HY4 := Lib.hid ((HY.out.same ((But.refl [] wr).drewN 1)).but hb4 (by simp; omega) (by simp; omega)); have hZ4 : Z ≤ w4.heap.size := Nat.le_trans hZr hb4.size; clear hf4 hx4 hb4)
              | (go_at_call 16; refine (rpop_any y R Z bs x.q _ HY4.out hR hyZ).mono ?_; rintro e w5 ⟨v5, rfl, hO5, hy5, hb5⟩; rw [← HT.out] at hO5; obtain ⟨A5, c5, rfl, -, hs5, -⟩ := hO5.at_; have k5 := conv8 (c := c5) hs5; rw [HSE.out] at k5; have hx5 := HX4.out.beside hb5 (by simp; omega) (by simp; omega) (HX4.out.bel.trans (hb5.below (by simp; omega) HX4.out.hB)); have hd5 := HC.out _ hx5.bel; have k45 := conv8 (c := T.length) (HF4.out.src.but hb5 (fun _ z hz => by injection hz with hz; subst hz; have := HF4.out.1; have h9 : (wr.drewN 1).heap.size = wr.heap.size := rfl; show o4 ∉ [y]; simp; omega)); rw [HSE.out] at k45; have HX5 := Lib.hid hx5; have HY5 := Lib.hid hy5; have HZ5 : Z ≤ w5.heap.size := Nat.le_trans hZ4 hb5.size; clear hs5 hO5 hy5 hx5 hb5))
          all_goals (
          clear k4 k5 k45 hd1 hd4 hd5 HX4 HF4 HY4 hZ4 HC HT HSE
          generalize bs.drop (clampN x.q bs.length) = bs5 at *
          have hbR5 := HX5.out.le
          obtain ⟨Ay, cy, hyb, -, -, -, -⟩ := HY5.out
          have hy0 : w5.cell? ⟨y, 0, none⟩ = some (.slice Ay bs5.length cy) := by rw [hyb.cell]; rfl
          have hy1 : w5.cell? ⟨y, 1, none⟩ = some (.int .i64 (R : Int)) := by rw [hyb.cell]; rfl
          have hwr : IntKind.i64.wrap ((R : Int) - (bs5.length : Int)) = ((R - bs5.length : Nat) : Int) := by rw [IntWalk.i64_in _ (by omega)]; omega
          have HLen := fun n => quietL (len_any g p R bs5 (w5.drewN n) (HX5.out.drewN n).rg)
          have HFree := fun n => Calls.quiet_of (free_any g p R bs5 (w5.drewN n) (HX5.out.drewN n).rg hR)
          have HFull := fun n => Calls.quiet_of (full_eq g p R bs5 (w5.drewN n) (HX5.out.drewN n).rg hR)
          have HLn := Lib.hid HLen
          have HFr := Lib.hid HFree
          have HFu := Lib.hid HFull
          clear hyb HLen HFree HFull
          generalize bs5.length = m5 at *
          go_wp2_with fail
          go_quiet (first | (go_at_call 19; exact HLn.out _) | (go_at_call 20; exact HFr.out _) | (go_at_call 21; exact HFu.out _))
          go_wp2_with fail
          go_roundw
          case rel => exact ⟨k + 1, bs5, by omega, by go_num, HX5.out.drewN _, HY5.out.same ((But.refl [] w5).drewN _), by exact HZ5⟩
          case measure => simp [intOf]; omega)
        · have HC := Lib.hid (fun w' (h : Below w.heap.size w w') => show w'.cell? ⟨ag, ao + k * 3 + 2, none⟩ = some (.int .i64 x.q) from (h.cell (p := ⟨ag, _, none⟩) hag).trans ((HX.out.bel.cell (p := ⟨ag, _, none⟩) hag).symm.trans hc2))
          obtain ⟨T, hT⟩ : ∃ T, T = bs.take (clampN x.q bs.length) := ⟨_, rfl⟩
          obtain ⟨s, hs⟩ : ∃ s : ByteArray, (⟨T.toArray⟩ : ByteArray) = s := ⟨_, rfl⟩
          have HT := Lib.hid hT
          have HSE := Lib.hid hs
          clear hT hs hc1
          go_wp2_with fail
          refine (see_held HX.out hR x.q).mono ?_
          rintro e w4 ⟨gi, rfl, hf4, hx4, hb4⟩
          rw [← HT.out] at hf4
          rw [← HT.out]
          have HX4 := Lib.hid hx4
          have HYN4 := Lib.hid (Rr.apart (gi := gi) HY.out hb4 hf4.1)
          have HF4 := Lib.hid hf4
          have hgi : wr.heap.size ≤ gi := hf4.1
          have HS4 := Lib.hid hf4.src
          have k4 := conv8 (w := w4.drew) (c := T.length) (show Src w4.drew _ _ _ from hf4.src)
          rw [HSE.out] at k4
          have hZ4 : Z ≤ w4.heap.size := Nat.le_trans hZr hb4.size
          have hd4 : w4.cell? ⟨ag, ao + k * 3 + 2, none⟩ = some (.int .i64 x.q) := HC.out _ hx4.bel
          clear hf4 hx4 hb4 hc0 hc2
          have hmb : T.length ≤ 140737488351232 := by rw [HT.out, List.length_take]; omega
          generalize hTl : T.length = m at *
          have HTl := Lib.hid hTl
          clear hTl
          go_wp2_with fail
          go_region_held (fun w' => w'.cell? ⟨ag, ao + k * 3 + 2, none⟩ = some (.int .i64 x.q)) (first | exact hd4 | exact hd5)
            ((go_at_call 18; refine (rsee_any y R Z bs x.q _ (HYN4.out.same ((But.refl [] w4).drewN 1)).rr hR).mono ?_; rintro e w5 ⟨v5, rfl, hO5, hb5⟩; rw [← HT.out] at hO5; obtain ⟨A5, c5, rfl, -, hs5, -⟩ := hO5.at_; rw [HTl.out] at hs5; rw [HTl.out]; have k5 := conv8 (c := c5) hs5; rw [HSE.out] at k5; have hbt5 : But [] w4 w5 := ((But.refl [] w4).drewN 1).trans (But.of_below hb5 []); have HX5 := Lib.hid (HX4.out.same hbt5); have HYN := Lib.hid (HYN4.out.same hbt5); have k45 := conv8 (c := m) (HS4.out.same hbt5); rw [HSE.out] at k45; have HZ5 : Z ≤ w5.heap.size := Nat.le_trans hZ4 hbt5.size; have hd5 := HC.out _ HX5.out.bel; have HBuf := Lib.hid (show Buf w5 gi m from fun _ => ⟨_, (HF4.out.2.but hbt5 (by simp)), by simp only [List.size_toArray, cellsOf_length, HTl.out]; exact Nat.le_refl _⟩); clear hs5 hO5 hb5 hbt5))
          all_goals (
          clear k4 k5 k45 hd4 hd5 HX4 HF4 HS4 HYN4 hZ4 HC HT HSE
          generalize hbb : bs = bs5 at *
          clear hbb
          go_wp2_with fail
          go_loopw [13] (fun i wi => ∃ j : Nat, j ≤ m ∧ i = .int .i64 (j : Int) ∧ Hid (Held w.heap.size w wi g p R bs5) ∧ Hid (RrN wi y R Z gi bs5) ∧ Z ≤ wi.heap.size ∧ Hid (Buf wi gi m)) (fun i _ => m - (intOf i).toNat)
          case atStart => exact ⟨0, Nat.zero_le _, rfl, HX5, HYN, HZ5, HBuf⟩
          case round =>
          clear HX5 HYN HZ5 HBuf
          obtain ⟨j, hj, rfl, HX5, HYN, HZ5, HBuf⟩ := hrel
          by_cases hlt2 : j < m
          · have hji : (j : Int) < (m : Int) := by omega
            obtain ⟨cur, hcb, hcm⟩ := HBuf.out (by omega)
            obtain ⟨cv, hcj⟩ : ∃ v, wr.cell? ⟨gi, j, none⟩ = some v := ⟨cur[j]'(by omega), by rw [hcb.cell]; exact Array.getElem?_eq_getElem _⟩
            have hfj := hcb.frozen j
            clear hcb hcm
            go_wp2_with fail
            go_roundw
            case rel =>
              have hbt : But [gi] wr (wr.setCell ⟨gi, j, none⟩ (.int .u8 7)) := (But.refl _ _).set_ (p := ⟨gi, j, none⟩) (.inl (by simp)) _
              exact ⟨j + 1, by omega, by go_num, HX5.out.beside hbt (by simp; omega) (by simp; omega) (HX5.out.bel.setCell (p := ⟨gi, j, none⟩) (by show w.heap.size ≤ gi; omega) _), HYN.out.turned hbt (by omega), Nat.le_trans HZ5 hbt.size, HBuf.out.set_ j _⟩
            case measure => simp [intOf]; omega
          obtain rfl : j = m := by omega
          have HY5 := Lib.hid HYN.out.rr
          clear HYN HBuf
          generalize wr = w5 at *
          have hbR5 := HX5.out.le
          obtain ⟨Ay, cy, hyb, -, -, -, -⟩ := HY5.out
          have hy0 : w5.cell? ⟨y, 0, none⟩ = some (.slice Ay bs5.length cy) := by rw [hyb.cell]; rfl
          have hy1 : w5.cell? ⟨y, 1, none⟩ = some (.int .i64 (R : Int)) := by rw [hyb.cell]; rfl
          have hwr : IntKind.i64.wrap ((R : Int) - (bs5.length : Int)) = ((R - bs5.length : Nat) : Int) := by rw [IntWalk.i64_in _ (by omega)]; omega
          have HLen := fun n => quietL (len_any g p R bs5 (w5.drewN n) (HX5.out.drewN n).rg)
          have HFree := fun n => Calls.quiet_of (free_any g p R bs5 (w5.drewN n) (HX5.out.drewN n).rg hR)
          have HFull := fun n => Calls.quiet_of (full_eq g p R bs5 (w5.drewN n) (HX5.out.drewN n).rg hR)
          have HLn := Lib.hid HLen
          have HFr := Lib.hid HFree
          have HFu := Lib.hid HFull
          clear hyb HLen HFree HFull
          generalize bs5.length = m5 at *
          go_wp2_with fail
          go_quiet (first | (go_at_call 19; exact HLn.out _) | (go_at_call 20; exact HFr.out _) | (go_at_call 21; exact HFu.out _))
          go_wp2_with fail
          go_roundw
          case rel => exact ⟨k + 1, bs5, by omega, by go_num, HX5.out.drewN _, HY5.out.same ((But.refl [] w5).drewN _), by exact HZ5⟩
          case measure => simp [intOf]; omega)
    · obtain rfl : k = ln := by omega
      go_wp2_with fail
      go_ret
      exact ⟨rfl, HX.out.bel⟩

theorem walk (W : World) (room : Int) (_ : -9223372036854775808 ≤ room ∧ room ≤ 9223372036854775807) (A : Option Addr) (ln cap : Nat) (l : List Cl) (hle : ln ≤ cap) (hc : cap ≤ maxLen) (hn : l.length = ln) (hl : SrcL W A l) :
    Calls Try.prog 3 #[.int .i64 room, .slice A ln cap] W fun e w' => e = .returned (.bool true) ∧ Below W.heap.size W w' := by
  unfold maxLen at hc
  cases hf : fewB l with
  | true => exact walk_few W room A ln cap l hn (by omega) hl hf
  | false => exact walk_out W room A ln cap l hn (by omega) hl hf

set_option maxRecDepth 100000 in
set_option linter.unusedVariables false in
theorem lifted (os : Os) (started : os.Started) (H : Type) (enc : TypeId × Value → H) :
    ReturnsInHanded {} Try.checked os 3 .any (Rows.ringPlaysSpec.pre6 enc Try.prog Try.f3 Rows.ringPlaysRow.domain false) (Rows.ringPlaysSpec.post enc Try.prog Try.f3 false true false false) := by
  refine returnsInHanded_of_change_sized (C := Try.checked) own started (by kernel_rfl) Try.func3
    (ChangeSpec.witness6 (enc := enc) (C := Try.checked) false ⟨#[], #[.int .i64 0, .slice none 0 0], []⟩ 8 (by kernel_rfl) (by kernel_rfl) (by kernel_rfl) (by kernel_rfl)) ?_
  intro W base args ds gs before hval0 hW hcnd hsz0 _
  have hval : ∀ (j : Nat) t v, Try.f3.params[j]? = some t → args[j]? = some v → Value.okWide Try.prog W .any base t v := hval0
  have hW' := hW
  obtain ⟨p, q, hA0, hV, rfl, hfz, hnd⟩ := hW
  have hA : DataW.TrodAll enc Try.prog W 0 (fun _ => true) true Try.f3.params.toList args.toList ds p := hA0
  have hsz : (DataW.weightsEach Try.prog (Try.f3.params.toList ++ Rows.ringPlaysSpec.plain.varTypes Try.prog) (ds ++ gs)).all (· ≤ reachBytes) = true := hsz0
  rw [Try.params3] at hA hval hsz
  obtain ⟨v0, vs0, d0, ds0, p0, q0, hargs, rfl, rfl, h0, r0⟩ := trodAll_cons hA
  obtain ⟨v1, vs1, d1, ds1, p1, q1, rfl, rfl, rfl, h1, r1⟩ := trodAll_cons r0
  obtain ⟨rfl, rfl, rfl⟩ := trodAll_nil r1
  obtain rfl : args = #[v0, v1] := by cases args; simp_all
  obtain ⟨rfl, rfl⟩ := trodVars_none hV
  have k0 := h0
  have lt0 : ∀ x ∈ p0, x.block < W.heap.size := by obtain ⟨m, hm⟩ := k0; exact DataW.trod_lt m _ _ _ hm
  obtain ⟨a0, rfl, rfl, rfl, w0⟩ := open_int Try.underlying3 (hval 0 3 v0 rfl rfl) h0
  have b0 := int_of w0
  have k1 := h1
  have lt1 : ∀ x ∈ p1, x.block < W.heap.size := by obtain ⟨m, hm⟩ := k1; exact DataW.trod_lt m _ _ _ hm
  obtain ⟨A1, n1, cap1, xs1, rfl, le1, mx1, ln1, src1⟩ := open_calls (hval 1 22 v1 rfl rfl) h1 (reach_at hsz (j := 1) (t := 22) rfl rfl)
  clear hA0 hval0 hsz0
  refine (walk W a0 b0 A1 n1 cap1 xs1 le1 mx1 ln1 src1).mono fun e W' ⟨he, bel⟩ => ?_
  subst he
  exact ⟨_, rfl, _, _, _, [], _, [], hW', trodAll_mk1 (shut_bool Try.underlying4 _), (trodAll_cons_mk (Below.trod laidOut (by kernel_rfl) (of_decide_eq_true (by kernel_rfl)) k0 bel lt0) (trodAll_cons_mk (Below.trod laidOut (by kernel_rfl) (of_decide_eq_true (by kernel_rfl)) k1 bel lt1) trodAll_mk0)), rfl, bel.frame _, fun h => by cases h⟩

theorem over : Rows.ringPlaysRow.holds Try.pinned (OpenSpec.ofChange Rows.ringPlaysSpec) :=
  OpenClaim.holds_of_wide 3 Try.f3 rfl rfl rfl rfl rfl rfl rfl ⟨rfl, rfl, rfl, rfl, rfl⟩ rfl rfl rfl rfl rfl (by kernel_rfl) Try.func3 (by kernel_rfl)
    (of_decide_eq_true (by kernel_rfl)) (by unfold Func.isWrapper; first | (rw [if_pos (by decide +kernel)]; kernel_rfl) | (rw [if_neg (by decide +kernel)]; exact ⟨rfl, rfl⟩))
    (fun os started H enc _ => lifted os started H enc)

theorem proved : Rows.RingPlaysSaid := over
#print axioms proved
end Go.Proofs.Ytpdihniimnoeoaa.ringPlays
