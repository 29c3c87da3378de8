/-
  'A buffer, call by call' (hagioscopelaw06.PeekPlays) holds: whatever the limit and the calls, the call returns true and leaves what was there as it was. No condition.
-/
import Derived.Test.YtnmfgimcclpfbaaPkFew
import Derived.Test.YtnmfgimcclpfbaaPkSmall
import Derived.Test.YtnmfgimcclpfbaaPkRef
import Derived.Test.YtnmfgimcclpfbaaLst
import Derived.LoopTactic
import Derived.Deep.QuietTactic
import Derived.BigQuiet
import Derived.Deep.RegionHeld
import Derived.Deep.DeepCutAuto
import Derived.Deep.CutBlock
namespace Go.Proofs.Ytnmfgimcclpfbaa.peekPlays
open Go.ChangeShapes Go.WideShapes Go.ChangeAt Go.RowKit
open Go.ChangeMaps (open_string shut_string)
open Go.Proofs.Ytnmfgimcclpfbaa.Wd Go.Proofs.Ytnmfgimcclpfbaa.Pk Go.Proofs.Ytnmfgimcclpfbaa.Lift

/-- the two buffers lie apart -/
structure Sep (g y : Nat) (p q : Option Nat) : Prop where
  py : p ≠ some y
  qg : q ≠ some g
  pq : ∀ b, p = some b → q ≠ some b
theorem Sep.add {g y n : Nat} {p p' q : Option Nat} (h : Sep g y p q) (hp : p' = p ∨ p' = some n) (hy : y < n) (hq : ∀ b, q = some b → b < n) : Sep g y p' q := by
  rcases hp with rfl | rfl
  · exact h
  · refine ⟨fun e => by injection e with e; omega, h.qg, fun b hb e => ?_⟩
    injection hb with hb
    have := hq b e
    omega
theorem Sep.radd {g y n : Nat} {p q q' : Option Nat} (h : Sep g y p q) (hq : ∀ b, q' = some b → n ≤ b) (hg : g < n) (hp : ∀ b, p = some b → b < n) : Sep g y p q' :=
  ⟨h.py, fun e => by have := hq g e; omega, fun b hb e => by have := hq b e; have := hp b hb; omega⟩
theorem Sep.ynot {g y : Nat} {p q : Option Nat} (h : Sep g y p q) (hgy : g < y) : y ∉ g :: p.toList := by
  intro hm
  rcases List.mem_cons.1 hm with e | e
  · omega
  · exact h.py (Option.mem_toList.1 e)
theorem Sep.qnot {g y : Nat} {p q : Option Nat} (h : Sep g y p q) : ∀ i ∈ g :: p.toList, q ≠ some i := by
  intro i hm
  rcases List.mem_cons.1 hm with rfl | e
  · exact h.qg
  · exact h.pq i (Option.mem_toList.1 e)
/-- the block that is written over lies apart from both -/
structure Gi (gi g y : Nat) (p q : Option Nat) : Prop where
  g_ : gi ≠ g
  y_ : gi ≠ y
  p_ : p ≠ some gi
  q_ : q ≠ some gi
theorem Gi.xnot {gi g y : Nat} {p q : Option Nat} (h : Gi gi g y p q) : gi ∉ g :: p.toList := by
  intro hm
  rcases List.mem_cons.1 hm with e | e
  · exact h.g_ e
  · exact h.p_ (Option.mem_toList.1 e)
theorem Gi.fresh {n gi g y : Nat} {p q : Option Nat} (hn : n ≤ gi) (hg : g < n) (hy : y < n) (hp : ∀ b, p = some b → b < n) (hq : ∀ b, q = some b → b < n) : Gi gi g y p q :=
  ⟨by omega, by omega, fun e => by have := hp _ e; omega, fun e => by have := hq _ e; omega⟩
theorem Gi.add {n gi g y : Nat} {p p' q : Option Nat} (h : Gi gi g y p q) (hp : p' = p ∨ p' = some n) (hn : gi < n) : Gi gi g y p' q := by
  rcases hp with rfl | rfl
  · exact h
  · exact ⟨h.g_, h.y_, fun e => by injection e with e; omega, h.q_⟩
theorem Gi.radd {n gi g y : Nat} {p q q' : Option Nat} (h : Gi gi g y p q) (hq : ∀ b, q' = some b → n ≤ b) (hn : gi < n) : Gi gi g y p q' :=
  ⟨h.g_, h.y_, h.p_, fun e => by have := hq _ e; omega⟩
/-- bytes in new memory: one block of them, or none -/
theorem own_gi {w : World} {B : Nat} {v : Value} {xs : List UInt8} (h : Own w B v xs) : ∃ gi A c, v = .slice A xs.length c ∧ B ≤ gi ∧ xs.length ≤ c ∧ (gi = B ∨ gi < w.heap.size) ∧ (0 < xs.length → A = some ⟨gi, 0, none⟩) ∧ (0 < xs.length → ∃ cur, Blk w gi 5 cur ∧ xs.length ≤ cur.size) ∧ Src w A xs.length xs := by
  have hs := h.cut_
  obtain ⟨_, ⟨rfl, h0⟩ | ⟨g, cap, cur, rfl, hg, hh, hc, _, hz, _⟩⟩ := h
  · have hx : xs = [] := List.eq_nil_of_length_eq_zero h0
    subst hx
    exact ⟨B, none, 0, rfl, Nat.le_refl _, Nat.le_refl _, .inl rfl, fun hp => absurd hp (by simp), fun hp => absurd hp (by simp), Src.nil w⟩
  · obtain ⟨A', c', e, _, hsrc, _⟩ := hs
    injection e with e1 e2 e3
    rw [← e1] at hsrc
    exact ⟨g, _, cap, rfl, hg, hc, .inr (Blk.lt (t := 5) (cs := cur) hh), fun _ => rfl, fun _ => ⟨cur, hh, by omega⟩, hsrc⟩
/-- the block that is written over, as it stands -/
def Buf (w : World) (gi m : Nat) : Prop := 0 < m → ∃ cur, Blk w gi 5 cur ∧ m ≤ cur.size
theorem Buf.but {S : List Nat} {w w' : World} {gi m : Nat} (h : Buf w gi m) (k : But S w w') (hg : gi ∉ S) : Buf w' gi m := fun h0 => by
  obtain ⟨cur, hb, hm⟩ := h h0
  exact ⟨cur, hb.but k hg, hm⟩
theorem Buf.set_ {w : World} {gi m : Nat} (h : Buf w gi m) (j : Nat) (v : Value) : Buf (w.setCell ⟨gi, j, none⟩ v) gi m := fun h0 => by
  obtain ⟨cur, hb, hm⟩ := h h0
  exact ⟨_, hb.set_ j v, by rw [Array.size_setIfInBounds]; exact hm⟩
theorem quietL {P : Program} {f : FuncId} {args : Array Value} {w : World} {n : Nat} {v : Value} (h : Calls P f args (w.drewN n) fun e w' => e = .returned v ∧ w.drewN n = w') :
    Calls P f args (w.drewN n) fun e w'' => e = .returned v ∧ ∃ m, w'' = w.drewN m := h.mono fun _ _ ⟨he, hm⟩ => ⟨he, n, hm.symm⟩

set_option maxRecDepth 100000 in
theorem walk_out (w : World) (most : Int) (A : Option Addr) (ln cap : Nat) (l : List Cl) (hn : l.length = ln) (hc : ln ≤ 9223372036854775807) (hl : SrcL w A l) (hf : fewB l = false) :
    Calls Try.prog 3 #[.int .i64 most, .slice A ln cap] w fun e w' => e = .returned (.bool true) ∧ Below w.heap.size w w' := by
  have HF := Lib.hid hf
  clear hf
  go_enter Try.func3, Try.ntmps3
  go_wp2_with fail
  refine (small_any w).mono ?_
  rintro e w1 ⟨rfl, hb1⟩
  go_wp2_with fail
  refine (few_any w1 A ln cap l hn hc (hl.below hb1)).mono ?_
  rintro e w2 ⟨rfl, rfl⟩
  rw [HF.out]
  go_wp2_with fail
  refine (new_kept most w w1 hb1 hb1.size).mono ?_
  rintro e w2 ⟨g, rfl, hr, -⟩
  have HR := Lib.hid hr
  clear hr
  go_wp2_with fail
  refine (rnew_any most w2).mono ?_
  rintro e w3 ⟨rfl, -, hb3⟩
  have HL := Lib.hid (HR.out.bel.trans (hb3.mono HR.out.hB))
  clear hb3
  go_wp2_with fail
  go_ret
  exact ⟨rfl, HL.out⟩

set_option maxRecDepth 100000 in
set_option maxHeartbeats 1000000 in
theorem walk_few (w : World) (most : Int) (A : Option Addr) (ln cap : Nat) (l : List Cl) (hn : l.length = ln) (hc : ln ≤ 9223372036854775807) (hl : SrcL w A l) (hf : fewB l = true) :
    Calls Try.prog 3 #[.int .i64 most, .slice A ln cap] w fun e w' => e = .returned (.bool true) ∧ Below w.heap.size w w' := by
  have HF := Lib.hid hf
  have HL := Lib.hid hl
  have HN := Lib.hid hn
  have hM := mostR_le most
  clear hf hl hn
  go_enter Try.func3, Try.ntmps3
  go_wp2_with fail
  refine (small_any w).mono ?_
  rintro e w1 ⟨rfl, hb1⟩
  go_wp2_with fail
  refine (few_any w1 A ln cap l HN.out hc (HL.out.below hb1)).mono ?_
  rintro e w2 ⟨rfl, rfl⟩
  rw [HF.out]
  go_wp2_with fail
  refine (new_kept most w w1 hb1 hb1.size).mono ?_
  rintro e w2 ⟨g, rfl, hr, -, -⟩
  have HR := Lib.hid hr
  have hgl := hr.pk.lt
  have hgw := hr.hg
  clear hr hb1
  go_wp2_with fail
  refine (rnew_any most w2).mono ?_
  rintro e w3 ⟨rfl, hy3, hb3⟩
  generalize mostR most = M at *
  have HX3 := Lib.hid (HR.out.same (But.of_below hb3 []))
  obtain ⟨y, hyy⟩ : ∃ y, y = w2.heap.size := ⟨_, rfl⟩
  rw [← hyy] at hy3
  rw [← hyy]
  have HY3 := Lib.hid hy3
  have hyw : w.heap.size ≤ y := by have := HR.out.hB; omega
  have hgy : g < y := by omega
  clear hy3 hb3 HR hyy
  go_wp2_with fail
  go_loopw [9] (fun i wr => ∃ (k : Nat) (p q : Option Nat) (bs : List UInt8) (cur : Nat) (ov : Bool), k ≤ ln ∧ i = .int .i64 (k : Int) ∧ Hid (Kept w.heap.size w wr g p M bs cur ov) ∧ Hid (Rb wr y q M bs cur ov) ∧ Hid (Sep g y p q)) (fun i _ => ln - (intOf i).toNat)
  case atStart => exact ⟨0, none, none, [], 0, false, Nat.zero_le _, rfl, HX3, HY3, Lib.hid ⟨by simp, by simp, by simp⟩⟩
  case round =>
    clear HX3 HY3
    obtain ⟨k, p, q, bs, cur, ov, hk, rfl, HX, HY, HSep⟩ := hrel
    by_cases hlt : k < ln
    · have hki : (k : Int) < (ln : Int) := by omega
      obtain ⟨x, ag, ao, -, hok, rfl, hag, hc0, hc1, hc2⟩ := HL.out.get (by rw [HN.out]; exact hlt) HX.out.bel
      have HOK := Lib.hid hok
      have HC1 := Lib.hid (fun w' (h : Below w.heap.size w w') => show w'.cell? ⟨ag, ao + k * 3 + 1, none⟩ = some (.slice x.A x.n x.c) from (h.cell (p := ⟨ag, _, none⟩) hag).trans ((HX.out.bel.cell (p := ⟨ag, _, none⟩) hag).symm.trans hc1))
      have HC2 := Lib.hid (fun w' (h : Below w.heap.size w w') => show w'.cell? ⟨ag, ao + k * 3 + 2, none⟩ = some (.int .i64 x.q) from (h.cell (p := ⟨ag, _, none⟩) hag).trans ((HX.out.bel.cell (p := ⟨ag, _, none⟩) hag).symm.trans hc2))
      clear hok hc1 hc2
      go_upto_block 2 with fail
      generalize x.which.tmod 3 = dd at *
      go_cut [52] (fun _ wx => ∃ (p q : Option Nat) (bs : List UInt8) (cur : Nat) (ov : Bool), Hid (Kept w.heap.size w wx g p M bs cur ov) ∧ Hid (Rb wx y q M bs cur ov) ∧ Hid (Sep g y p q))
      case first =>
        rcases Bool.eq_false_or_eq_true (dd == 0) with hw | hw
        · have hmb := HOK.out.small
          have HSB := Lib.hid HOK.out.src
          have HNC := Lib.hid HOK.out.nc
          have HC := HC1
          clear HOK HC1 HC2 hc0
          obtain ⟨XA, hXA⟩ : ∃ A, A = x.A := ⟨_, rfl⟩
          obtain ⟨m, hxm⟩ : ∃ m, m = x.n := ⟨_, rfl⟩
          obtain ⟨xc, hxc⟩ : ∃ c, c = x.c := ⟨_, rfl⟩
          obtain ⟨xb, hxb⟩ : ∃ b, b = x.b := ⟨_, rfl⟩
          rw [← hXA, ← hxm, ← hxc] at HC
          rw [← hXA, ← hxm, ← hxb] at HSB
          rw [← hxm, ← hxc] at HNC
          rw [← hxm] at hmb
          clear hXA hxm hxc hxb
          have HBM := Lib.hid HSB.out.1
          have hbt0 : But [] wr (wr.alloc (.cells #[] 5)) := (But.refl [] wr).alloc _
          have hown0 := Lib.hid (Own.empty wr wr.heap.size (Nat.le_refl _))
          have hsrc0 := Lib.hid ((HSB.out.below HX.out.bel).same hbt0)
          have hc1a := HC.out _ (HX.out.same hbt0).bel
          have hsz0 : wr.heap.size < (wr.alloc (.cells #[] 5)).heap.size := by simp
          clear hbt0
          go_wp2_with (at_builtin; refine wpList_app rfl (.tmp 53) (.tmp 58) 29 rfl und8 inf8 wr.heap.size _ [] rfl hown0.out XA m xc xb rfl hsrc0.out (by simp; omega) (by simp) ?_; intro v4 w4 HO4 hb4)
          rw [List.nil_append] at HO4
          have hsz4 : wr.heap.size < w4.heap.size := Nat.lt_of_lt_of_le hsz0 hb4.size
          have hbt4 : But [] wr w4 := But.of_below (((Below.refl wr.heap.size wr).alloc (Nat.le_refl _) _).trans hb4) []
          have HX4 := Lib.hid (HX.out.same hbt4)
          have HY4 := Lib.hid (HY.out.same hbt4)
          obtain ⟨gi, Ai, ci, rfl, hgi, hlc, hgi4, hAgi, hBf, hsi⟩ := own_gi HO4.out
          rw [HBM.out] at hlc hAgi hBf hsi
          rw [HBM.out]
          have hgi5 : gi < w4.heap.size := by omega
          have HGi := Lib.hid (Gi.fresh (n := wr.heap.size) hgi HX.out.pk.lt HY.out.lt (fun b hb => HX.out.pk.plt hb) (fun b hb => HY.out.qlt hb))
          have hgB : w.heap.size ≤ gi := Nat.le_trans HX.out.hB hgi
          have HSI := Lib.hid hsi
          have HAgi := Lib.hid hAgi
          have HBf := Lib.hid (show Buf w4 gi m from hBf)
          have hd4 : w4.cell? ⟨ag, ao + k * 3 + 1, none⟩ = some (.slice XA m xc) := HC.out _ HX4.out.bel
          have hglt : g < w4.heap.size := HX4.out.pk.lt
          have hylt : y < w4.heap.size := HY4.out.lt
          clear hsi hAgi hBf hgi4 hbt4 hb4 HO4 hc1a hown0 hsrc0 hsz0 HX HY hgi
          go_wp2_with fail
          go_region_held (fun w' => w'.cell? ⟨ag, ao + k * 3 + 1, none⟩ = some (.slice XA m xc)) (first | exact hd4 | exact hd5 | exact hd6)
            (first
              | (go_at_call 12; refine (add_kept (HX4.out.drewN 1) hM Ai m ci xb (by exact HSI.out) hlc).mono ?_; rintro e w5 ⟨rfl, p5, hx5, hp5, hb5⟩; have HX5 := Lib.hid hx5; have hb5' : But (g :: p.toList) w4 w5 := ((But.refl _ w4).drewN 1).trans hb5; have HY5 := Lib.hid (HY4.out.but hb5' (HSep.out.ynot hgy) HSep.out.qnot); have HSep5 := Lib.hid (HSep.out.add hp5 (by exact hylt) (fun b hb => by exact HY4.out.qlt hb)); have HGi5 := Lib.hid (HGi.out.add hp5 (by exact hgi5)); have hd5 := HC.out _ hx5.bel; have hgi6 : gi < w5.heap.size := Nat.lt_of_lt_of_le hgi5 hb5'.size; have hglt5 : g < w5.heap.size := Nat.lt_of_lt_of_le hglt hb5'.size; have HBf5 := Lib.hid (HBf.out.but hb5' HGi.out.xnot); clear hx5 hp5 hb5 hb5')
              | (go_at_call 13; refine (radd_any HY5.out hM XA m xc xb (HSB.out.below HX5.out.bel) HNC.out).mono ?_; rintro e w6 ⟨rfl, q6, hy6, hq6, hb6⟩; have HX6 := Lib.hid (HX5.out.beside hb6 (by simp; omega) (by simpa using HSep5.out.py) (HX5.out.bel.trans (hb6.below (by simpa using hyw) HX5.out.hB))); have HY6 := Lib.hid hy6; have HSep6 := Lib.hid (HSep5.out.radd hq6 hglt5 (fun b hb => HX5.out.pk.plt hb)); have HGi6 := Lib.hid (HGi5.out.radd hq6 hgi6); have hd6 := HC.out _ HX6.out.bel; have HBf6 := Lib.hid (HBf5.out.but hb6 (by simpa using HGi5.out.y_)); clear hy6 hq6 hb6))
          all_goals (
          clear hd4 hd5 hd6 HX4 HY4 HX5 HY5 HSep5 HGi5 HBf5 HBf HSI HC
          generalize bs ++ xb.take (roomK M bs.length m) = bs6 at *
          generalize (ov || decide (roomK M bs.length m < m)) = ov6 at *
          go_wp2_with fail
          go_loopw [11] (fun i wi => ∃ j : Nat, j ≤ m ∧ i = .int .i64 (j : Int) ∧ Hid (Kept w.heap.size w wi g p5 M bs6 cur ov6) ∧ Hid (Rb wi y q6 M bs6 cur ov6) ∧ Hid (Buf wi gi m)) (fun i _ => m - (intOf i).toNat)
          case atStart => exact ⟨0, Nat.zero_le _, rfl, HX6, HY6, HBf6⟩
          case round =>
          clear HX6 HY6 HBf6
          obtain ⟨j, hj, rfl, HX6, HY6, HBf6⟩ := hrel
          by_cases hlt2 : j < m
          · have hji : (j : Int) < (m : Int) := by omega
            obtain ⟨cu, hcb, hcm⟩ := HBf6.out (by omega)
            obtain rfl := HAgi.out (by omega)
            obtain ⟨cv, hcj⟩ : ∃ v, wr.cell? ⟨gi, j, none⟩ = some v := ⟨cu[j]'(by omega), by rw [hcb.cell]; exact Array.getElem?_eq_getElem _⟩
            have hfj := hcb.frozen j
            clear hcb hcm
            go_wp2_with fail
            go_roundw
            case rel =>
              have hbt : But [gi] wr (wr.setCell ⟨gi, j, none⟩ (.int .u8 7)) := (But.refl _ _).set_ (p := ⟨gi, j, none⟩) (.inl (by simp)) _
              exact ⟨j + 1, by omega, by go_num, HX6.out.beside hbt (by simpa using HGi6.out.g_.symm) (by simpa using HGi6.out.p_) (HX6.out.bel.setCell (p := ⟨gi, j, none⟩) hgB _), HY6.out.but hbt (by simpa using HGi6.out.y_.symm) (by simpa using HGi6.out.q_), HBf6.out.set_ j _⟩
            case measure => simp [intOf]; omega
          obtain rfl : j = m := by omega
          go_wp2_with fail
          go_meet
          exact ⟨p5, q6, bs6, cur, ov6, HX6, HY6, HSep6⟩)
        · rcases Bool.eq_false_or_eq_true (dd == 1) with hw1 | hw1
          · have hcq := HC2.out wr HX.out.bel
            have hle := HX.out.le
            obtain ⟨T, hT⟩ : ∃ T, T = (bs.drop cur).take (clampK x.q (bs.length - cur)) := ⟨_, rfl⟩
            have hTl : T.length ≤ 16384 := by rw [hT, List.length_take, List.length_drop]; omega
            have HT := Lib.hid hT
            clear hT
            go_wp2_with fail
            refine (next_kept HX.out hM x.q).mono ?_
            rintro e w4 ⟨v4, rfl, ho4, hx4, hb4⟩
            rw [← HT.out] at ho4
            obtain ⟨gi, A4, c4, rfl, hgi, hlc, hgi4, hAgi, hBf, hsi⟩ := own_gi ho4
            have HX4 := Lib.hid hx4
            have HY4 := Lib.hid (HY.out.but hb4 (by simp; omega) (by simpa using HSep.out.qg))
            have HGi6 := Lib.hid (Gi.fresh (n := wr.heap.size) hgi HX.out.pk.lt HY.out.lt (fun b hb => HX.out.pk.plt hb) (fun b hb => HY.out.qlt hb))
            have hgB : w.heap.size ≤ gi := Nat.le_trans HX.out.hB hgi
            obtain ⟨s, hs⟩ : ∃ s : ByteArray, (⟨T.toArray⟩ : ByteArray) = s := ⟨_, rfl⟩
            have HSE := Lib.hid hs
            have HSI := Lib.hid hsi
            have HAgi := Lib.hid hAgi
            have HBf := Lib.hid (show Buf w4 gi T.length from hBf)
            have k4 := con8 (w := w4.drew) (c := c4) (show Src w4.drew _ _ _ from hsi)
            rw [HSE.out] at k4
            have hd4 : w4.cell? ⟨ag, ao + k * 3 + 2, none⟩ = some (.int .i64 x.q) := HC2.out _ hx4.bel
            clear hs ho4 hx4 hb4 hsi hAgi hBf hgi4 hcq hgi HX HY
            generalize hm : T.length = m at *
            have HTl := Lib.hid hm
            clear hm
            generalize hcu : cur + clampK x.q (bs.length - cur) = cur6 at *
            have HCU := Lib.hid hcu
            clear hcu
            go_wp2_with fail
            go_region_held (fun w' => w'.cell? ⟨ag, ao + k * 3 + 2, none⟩ = some (.int .i64 x.q)) (first | exact hd4 | exact hd5)
              ((go_at_call 15; refine (rnext_any (HY4.out.same ((But.refl [] w4).drewN 1)) hM x.q).mono ?_; rintro e w5 ⟨v5, rfl, hO5, hy5, hb5⟩; rw [← HT.out] at hO5; rw [HCU.out] at hy5; obtain ⟨A5, c5, rfl, -, hs5, -⟩ := hO5.cut_; rw [HTl.out] at hs5; rw [HTl.out]; have k5 := con8 (c := c5) hs5; rw [HSE.out] at k5; have hb5' : But [y] w4 w5 := ((But.refl [y] w4).drewN 1).trans hb5; have HX6 := Lib.hid (HX4.out.beside hb5' (by simp; omega) (by simpa using HSep.out.py) (HX4.out.bel.trans (hb5'.below (by simpa using hyw) HX4.out.hB))); have HY6 := Lib.hid hy5; have k45 := con8 (c := c4) (HSI.out.but hb5' (fun h0 z hz => by rw [HAgi.out h0] at hz; injection hz with hz; subst hz; simpa using HGi6.out.y_)); rw [HSE.out] at k45; have hd5 := HC2.out _ HX6.out.bel; have HBf6 := Lib.hid (HBf.out.but hb5' (by simpa using HGi6.out.y_)); clear hs5 hO5 hy5 hb5 hb5'))
            all_goals (
            clear k4 k5 k45 hd4 hd5 HX4 HY4 HBf HSI HC1 HC2 HT HSE
            go_wp2_with fail
            go_loopw [13] (fun i wi => ∃ j : Nat, j ≤ m ∧ i = .int .i64 (j : Int) ∧ Hid (Kept w.heap.size w wi g p M bs cur6 ov) ∧ Hid (Rb wi y q M bs cur6 ov) ∧ Hid (Buf wi gi m)) (fun i _ => m - (intOf i).toNat)
            case atStart => exact ⟨0, Nat.zero_le _, rfl, HX6, HY6, HBf6⟩
            case round =>
            clear HX6 HY6 HBf6
            obtain ⟨j, hj, rfl, HX6, HY6, HBf6⟩ := hrel
            by_cases hlt2 : j < m
            · have hji : (j : Int) < (m : Int) := by omega
              obtain ⟨cu, hcb, hcm⟩ := HBf6.out (by omega)
              obtain rfl := HAgi.out (by omega)
              obtain ⟨cv, hcj⟩ : ∃ v, wr.cell? ⟨gi, j, none⟩ = some v := ⟨cu[j]'(by omega), by rw [hcb.cell]; exact Array.getElem?_eq_getElem _⟩
              have hfj := hcb.frozen j
              clear hcb hcm
              go_wp2_with fail
              go_roundw
              case rel =>
                have hbt : But [gi] wr (wr.setCell ⟨gi, j, none⟩ (.int .u8 7)) := (But.refl _ _).set_ (p := ⟨gi, j, none⟩) (.inl (by simp)) _
                exact ⟨j + 1, by omega, by go_num, HX6.out.beside hbt (by simpa using HGi6.out.g_.symm) (by simpa using HGi6.out.p_) (HX6.out.bel.setCell (p := ⟨gi, j, none⟩) hgB _), HY6.out.but hbt (by simpa using HGi6.out.y_.symm) (by simpa using HGi6.out.q_), HBf6.out.set_ j _⟩
              case measure => simp [intOf]; omega
            obtain rfl : j = m := by omega
            go_wp2_with fail
            go_meet
            exact ⟨p, q, bs, cur6, ov, HX6, HY6, HSep⟩)
          · have hy2 : True := trivial
            go_wp2_with fail
            refine (back_kept HX.out).mono ?_
            rintro e w4 ⟨rfl, hx4, hb4⟩
            have HX4 := Lib.hid hx4
            have HY4 := Lib.hid (HY.out.but hb4 (by simp; omega) (by simpa using HSep.out.qg))
            clear hx4 hb4 HX HY
            obtain ⟨cy, hyb, hya, hyc, hyl⟩ := HY4.out
            have hf2 := hyb.frozen 2
            have hc2 : w4.cell? ⟨y, 2, none⟩ = some (.int .i64 (cur : Int)) := by rw [hyb.cell]; rfl
            have HYB := Lib.hid hyb
            have HYA := Lib.hid hya
            clear hyb hya
            go_wp2_with fail
            go_meet
            have hbt : But [y] w4 (w4.setCell ⟨y, 2, none⟩ (.int .i64 0)) := (But.refl _ _).set_ (p := ⟨y, 2, none⟩) (.inl (by simp)) _
            refine ⟨p, q, bs, 0, ov, HX4.out.beside hbt (by simp; omega) (by simpa using HSep.out.py) (HX4.out.bel.setCell (p := ⟨y, 2, none⟩) hyw _), ⟨cy, ?_, HYA.out.but hbt (fun b hb hm => by simp at hm; subst hm; exact HY4.out.ne hb), Nat.zero_le _, hyl⟩, HSep⟩
            have h := HYB.out.set_ 2 (.int .i64 0)
            rw [set4_2] at h
            exact h
      case rest =>
        clear HX HY HSep HC1 HC2 HOK hc0 p q bs cur ov
        obtain ⟨p, q, bs, cur, ov, HX, HY, HSep⟩ := hcut
        have hle := HX.out.le
        go_wp2_with fail
        refine (bytes_kept HX.out hM).mono ?_
        rintro e w4 ⟨v4, rfl, ho4, hx4, hb4⟩
        obtain ⟨gi, A4, c4, rfl, hgi, hlc, hgi4, hAgi, hBf, hsi⟩ := own_gi ho4
        have HX6 := Lib.hid hx4
        have HY6 := Lib.hid (HY.out.same hb4)
        have HGi6 := Lib.hid (Gi.fresh (n := wc.heap.size) hgi HX.out.pk.lt HY.out.lt (fun b hb => HX.out.pk.plt hb) (fun b hb => HY.out.qlt hb))
        have hgB : w.heap.size ≤ gi := Nat.le_trans HX.out.hB hgi
        obtain ⟨s, hs⟩ : ∃ s : ByteArray, (⟨bs.toArray⟩ : ByteArray) = s := ⟨_, rfl⟩
        have HAgi := Lib.hid hAgi
        have HBf6 := Lib.hid (show Buf w4 gi bs.length from hBf)
        obtain ⟨cy, hyb, hya, hyc, hyl⟩ := HY6.out
        have k4 := fun n => con8 (w := w4.drewN n) (c := c4) (show Src (w4.drewN n) _ _ _ from hsi)
        have k5 := fun n => con8 (w := w4.drewN n) (c := cy) (show Src (w4.drewN n) _ _ _ from hya.src.2)
        rw [hs] at k4 k5
        have hy0 : w4.cell? ⟨y, 0, none⟩ = some (.slice (ad q) bs.length cy) := by rw [hyb.cell]; rfl
        have hy2 : w4.cell? ⟨y, 2, none⟩ = some (.int .i64 (cur : Int)) := by rw [hyb.cell]; rfl
        have hy3 : w4.cell? ⟨y, 3, none⟩ = some (.bool ov) := by rw [hyb.cell]; rfl
        have hwr : IntKind.i64.wrap ((bs.length : Int) - (cur : Int)) = ((bs.length - cur : Nat) : Int) := by rw [IntWalk.i64_in _ (by omega)]; omega
        have HLn := Lib.hid (fun n => quietL (len_any (w := w4.drewN n) (HX6.out.drewN n).pk))
        have HOv := Lib.hid (fun n => quietL (over_any (w := w4.drewN n) (HX6.out.drewN n).pk))
        have HLf := Lib.hid (fun n => Calls.quiet_of (left_any (w := w4.drewN n) (HX6.out.drewN n).pk hM))
        clear hs ho4 hx4 hb4 hsi hAgi hBf hgi4 hgi HX HY hyb hya
        generalize hm : bs.length = m at *
        have HTl := Lib.hid hm
        clear hm
        go_wp2_with fail
        go_quiet (first | (go_at_call 18; exact HLn.out _) | (go_at_call 19; exact HOv.out _) | (go_at_call 20; exact HLf.out _))
        have HX7 := Lib.hid (HX6.out.drewN nq)
        have HY7 := Lib.hid (HY6.out.same ((But.refl [] w4).drewN nq))
        have HBf7 := Lib.hid (HBf6.out.but ((But.refl [] w4).drewN nq) (by simp))
        clear k4 k5 hy0 hy2 hy3 hwr HLn HOv HLf HX6 HY6 HBf6
        have HX6 := HX7
        have HY6 := HY7
        have HBf6 := HBf7
        clear HX7 HY7 HBf7
        generalize w4.drewN nq = w5 at *
        go_wp2_with fail
        go_loopw [15] (fun i wi => ∃ j : Nat, j ≤ m ∧ i = .int .i64 (j : Int) ∧ Hid (Kept w.heap.size w wi g p M bs cur ov) ∧ Hid (Rb wi y q M bs cur ov) ∧ Hid (Buf wi gi m)) (fun i _ => m - (intOf i).toNat)
        case atStart => exact ⟨0, Nat.zero_le _, rfl, HX6, HY6, HBf6⟩
        case round =>
        clear HX6 HY6 HBf6
        obtain ⟨j, hj, rfl, HX6, HY6, HBf6⟩ := hrel
        by_cases hlt2 : j < m
        · have hji : (j : Int) < (m : Int) := by omega
          obtain ⟨cu, hcb, hcm⟩ := HBf6.out (by omega)
          obtain rfl := HAgi.out (by omega)
          obtain ⟨cv, hcj⟩ : ∃ v, wr.cell? ⟨gi, j, none⟩ = some v := ⟨cu[j]'(by omega), by rw [hcb.cell]; exact Array.getElem?_eq_getElem _⟩
          have hfj := hcb.frozen j
          clear hcb hcm
          go_wp2_with fail
          go_roundw
          case rel =>
            have hbt : But [gi] wr (wr.setCell ⟨gi, j, none⟩ (.int .u8 7)) := (But.refl _ _).set_ (p := ⟨gi, j, none⟩) (.inl (by simp)) _
            exact ⟨j + 1, by omega, by go_num, HX6.out.beside hbt (by simpa using HGi6.out.g_.symm) (by simpa using HGi6.out.p_) (HX6.out.bel.setCell (p := ⟨gi, j, none⟩) hgB _), HY6.out.but hbt (by simpa using HGi6.out.y_.symm) (by simpa using HGi6.out.q_), HBf6.out.set_ j _⟩
          case measure => simp [intOf]; omega
        obtain rfl : j = m := by omega
        go_wp2_with fail
        go_roundw
        case rel => exact ⟨k + 1, p, q, bs, cur, ov, by omega, by go_num, HX6, HY6, HSep⟩
        case measure => simp [intOf]; omega
    · obtain rfl : k = ln := by omega
      go_wp2_with fail
      go_ret
      exact ⟨rfl, HX.out.bel⟩

theorem walk (W : World) (most : Int) (_ : -9223372036854775808 ≤ most ∧ most ≤ 9223372036854775807) (A : Option Addr) (ln cap : Nat) (l : List Cl) (hle : ln ≤ cap) (hc : cap ≤ maxLen) (hn : l.length = ln) (hl : SrcL W A l) :
    Calls Try.prog 3 #[.int .i64 most, .slice A ln cap] W fun e w' => e = .returned (.bool true) ∧ Below W.heap.size W w' := by
  unfold maxLen at hc
  cases hf : fewB l with
  | true => exact walk_few W most A ln cap l hn (by omega) hl hf
  | false => exact walk_out W most A ln cap l hn (by omega) hl hf

set_option maxRecDepth 100000 in
set_option linter.unusedVariables false in
theorem lifted (os : Os) (started : os.Started) (H : Type) (enc : TypeId × Value → H) :
    ReturnsInHanded {} Try.checked os 3 .any (Rows.peekPlaysSpec.pre6 enc Try.prog Try.f3 Rows.peekPlaysRow.domain false) (Rows.peekPlaysSpec.post enc Try.prog Try.f3 false true false false) := by
  refine returnsInHanded_of_change_sized (C := Try.checked) own started (by kernel_rfl) Try.func3
    (ChangeSpec.witness6 (enc := enc) (C := Try.checked) false ⟨#[], #[.int .i64 0, .slice none 0 0], []⟩ 8 (by kernel_rfl) (by kernel_rfl) (by kernel_rfl) (by kernel_rfl)) ?_
  intro W base args ds gs before hval0 hW hcnd hsz0 _
  have hval : ∀ (j : Nat) t v, Try.f3.params[j]? = some t → args[j]? = some v → Value.okWide Try.prog W .any base t v := hval0
  have hW' := hW
  obtain ⟨p, q, hA0, hV, rfl, hfz, hnd⟩ := hW
  have hA : DataW.TrodAll enc Try.prog W 0 (fun _ => true) true Try.f3.params.toList args.toList ds p := hA0
  have hsz : (DataW.weightsEach Try.prog (Try.f3.params.toList ++ Rows.peekPlaysSpec.plain.varTypes Try.prog) (ds ++ gs)).all (· ≤ reachBytes) = true := hsz0
  rw [Try.params3] at hA hval hsz
  obtain ⟨v0, vs0, d0, ds0, p0, q0, hargs, rfl, rfl, h0, r0⟩ := trodAll_cons hA
  obtain ⟨v1, vs1, d1, ds1, p1, q1, rfl, rfl, rfl, h1, r1⟩ := trodAll_cons r0
  obtain ⟨rfl, rfl, rfl⟩ := trodAll_nil r1
  obtain rfl : args = #[v0, v1] := by cases args; simp_all
  obtain ⟨rfl, rfl⟩ := trodVars_none hV
  have k0 := h0
  have lt0 : ∀ x ∈ p0, x.block < W.heap.size := by obtain ⟨m, hm⟩ := k0; exact DataW.trod_lt m _ _ _ hm
  obtain ⟨a0, rfl, rfl, rfl, w0⟩ := open_int Try.underlying3 (hval 0 3 v0 rfl rfl) h0
  have b0 := int_of w0
  have k1 := h1
  have lt1 : ∀ x ∈ p1, x.block < W.heap.size := by obtain ⟨m, hm⟩ := k1; exact DataW.trod_lt m _ _ _ hm
  obtain ⟨A1, n1, cap1, xs1, rfl, le1, mx1, ln1, src1⟩ := open_calls (hval 1 22 v1 rfl rfl) h1 (reach_at hsz (j := 1) (t := 22) rfl rfl)
  clear hA0 hval0 hsz0
  refine (walk W a0 b0 A1 n1 cap1 xs1 le1 mx1 ln1 src1).mono fun e W' ⟨he, bel⟩ => ?_
  subst he
  exact ⟨_, rfl, _, _, _, [], _, [], hW', trodAll_mk1 (shut_bool Try.underlying4 _), (trodAll_cons_mk (Below.trod laidOut (by kernel_rfl) (of_decide_eq_true (by kernel_rfl)) k0 bel lt0) (trodAll_cons_mk (Below.trod laidOut (by kernel_rfl) (of_decide_eq_true (by kernel_rfl)) k1 bel lt1) trodAll_mk0)), rfl, bel.frame _, fun h => by cases h⟩

theorem over : Rows.peekPlaysRow.holds Try.pinned (OpenSpec.ofChange Rows.peekPlaysSpec) :=
  OpenClaim.holds_of_wide 3 Try.f3 rfl rfl rfl rfl rfl rfl rfl ⟨rfl, rfl, rfl, rfl, rfl⟩ rfl rfl rfl rfl rfl (by kernel_rfl) Try.func3 (by kernel_rfl)
    (of_decide_eq_true (by kernel_rfl)) (by unfold Func.isWrapper; first | (rw [if_pos (by decide +kernel)]; kernel_rfl) | (rw [if_neg (by decide +kernel)]; exact ⟨rfl, rfl⟩))
    (fun os started H enc _ => lifted os started H enc)

theorem proved : Rows.PeekPlaysSaid := over
#print axioms proved
end Go.Proofs.Ytnmfgimcclpfbaa.peekPlays
