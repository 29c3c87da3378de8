/-
  The law BeReads holds: whatever the bytes and the calls, the call returns true and leaves what was there as it was. No condition.
-/
import Derived.Test.YteikjoafabldpaaRefNum
import Derived.Test.YteikjoafabldpaaLift
import Derived.Deep.SlicePairs
import Derived.Deep.RegionHeld
import Derived.Deep.DeepCutAuto
import Derived.Deep.CutBlock
namespace Go.Proofs.Yteikjoafabldpaa.beReads
open Go.ChangeShapes Go.WideShapes Go.ChangeAt Go.RowKit
open Go.ChangeMaps (open_string shut_string)
open Go.Proofs.Yteikjoafabldpaa.Wd Go.Proofs.Yteikjoafabldpaa.Be Go.Proofs.Yteikjoafabldpaa.Lift Go.Proofs.Yteikjoafabldpaa.RefBe

/-- a []Call that came in: its two numbers, place by place -/
def CallsAt (w : World) (A : Option Addr) (n : Nat) (F : Nat → Int × Int) : Prop :=
  ∀ i, i < n → ∃ b off, A = some ⟨b, off, none⟩ ∧ b < w.heap.size ∧ w.cell? ⟨b, off + i * 2, none⟩ = some (.int .i64 (F i).1) ∧ w.cell? ⟨b, off + i * 2 + 1, none⟩ = some (.int .i64 (F i).2)
theorem CallsAt.below {w w' : World} {A : Option Addr} {n : Nat} {F : Nat → Int × Int} (h : CallsAt w A n F) (hb : Below w.heap.size w w') : CallsAt w' A n F := by
  intro i hi
  obtain ⟨b, off, e, hlt, h1, h2⟩ := h i hi
  exact ⟨b, off, e, Nat.lt_of_lt_of_le hlt hb.size, (hb.cell (p := ⟨b, _, none⟩) hlt).trans h1, (hb.cell (p := ⟨b, _, none⟩) hlt).trans h2⟩

theorem open_calls {H : Type} {enc : TypeId × Value → H} {W : World} {sp : Nat → Bool} {hd : Bool} {base b0 : Nat} {v : Value} {d : DataW H} {p : List MemPlace}
    (hv : Value.okWide Try.prog W .any b0 28 v) (h : DataW.Trod enc Try.prog W base sp hd 28 v d p) :
    ∃ A n c F, v = .slice A n c ∧ n ≤ c ∧ c ≤ maxLen ∧ CallsAt W A n F := by
  obtain ⟨A, n, c, rfl⟩ := okWide_slice Try.underlying28 hv
  obtain ⟨fuel, hf⟩ := h
  rcases Go.Deep.open_slice_pairs Try.underlying28 Try.underlying35 (by kernel_rfl) rfl rfl (by kernel_rfl) (by kernel_rfl) hf with ⟨hcs, _⟩ | ⟨a, len, cap, m, fu, V0, V1, D0, D1, P0, P1, hcs, _, hl, hm, hmm, _, hi⟩
  · simp [Value.cells] at hcs
    obtain ⟨rfl, rfl, rfl⟩ := hcs
    exact ⟨none, 0, 0, fun _ => (0, 0), rfl, Nat.le_refl _, Nat.zero_le _, fun i hi => absurd hi (by omega)⟩
  · simp [Value.cells] at hcs
    obtain ⟨rfl, rfl, rfl⟩ := hcs
    have hnm : n ≤ m := by rw [hmm]; split <;> omega
    have key : ∀ i, ∃ q : Int × Int, i < n → V0 i = .int .i64 q.1 ∧ V1 i = .int .i64 q.2 := by
      intro i
      by_cases h : i < n
      · obtain ⟨_, _, t0, t1⟩ := hi i (by omega)
        obtain ⟨x, e0, _, _⟩ := DataW.trod_int Try.underlying3 t0
        obtain ⟨z, e1, _, _⟩ := DataW.trod_int Try.underlying3 t1
        simp at e0 e1
        exact ⟨(x, z), fun _ => ⟨e0, e1⟩⟩
      · exact ⟨(0, 0), fun h' => absurd h' h⟩
    refine ⟨_, n, c, fun i => (key i).choose, rfl, hl, hm, fun i hin => ?_⟩
    have hq := (key i).choose_spec hin
    obtain ⟨h0, h1, _, _⟩ := hi i (by omega)
    rw [hq.1] at h0
    rw [hq.2] at h1
    have hbl := block_lt_of_cell h0
    have h00 := (hi 0 (by omega)).1
    obtain ⟨b, off, spot⟩ := a
    have hspot : spot = none := by simpa [Addr.add] using World.cell?_spot h00
    subst hspot
    rw [add_none] at h0 h1 hbl
    exact ⟨b, off, rfl, hbl, h0, h1⟩

/-- be.Read, with its blocks -/
def ReadPost (w : World) (n : Nat) (xs : List UInt8) (e : Ending) (w' : World) : Prop :=
  ∃ r, e = .returned (.pointer (some ⟨r, 0, none⟩)) ∧ w.heap.size < r ∧ Blk w' r 52 #[.slice (some ⟨w.heap.size, 0, none⟩) n n, .bool false] ∧ Blk w' w.heap.size 5 (cellsOf xs).toArray ∧ Below w.heap.size w w'
set_option maxHeartbeats 400000 in
theorem read_exact (A : Option Addr) (n c : Nat) (xs : List UInt8) (w : World) (hs : Src w A n xs) (hn : n ≤ 140737488355320) :
    Calls Try.prog 14 #[.slice A n c] w (ReadPost w n xs) := by
  go_enter Try.func14, Try.ntmps14
  go_wp2_with fail
  refine (grown_any A n c 0 xs w hs (by omega)).mono ?_
  rintro e w1 ⟨rfl, hb1, hbel1⟩
  have hsz := hb1.lt
  have H1 := Lib.hid hb1
  clear hb1
  go_wp2_with fail
  go_ret
  refine ⟨w1.heap.size, rfl, hsz, Blk.new _ _ _, ?_, hbel1.alloc hbel1.size _⟩
  have h := H1.out.alloc (.cells #[.slice (some ⟨w.heap.size, 0, none⟩) n n, .bool false] 52)
  rw [List.replicate_zero, List.append_nil] at h
  exact h

theorem and3 (a : Int) : bits .and .i64 a 3 = 0 ∨ bits .and .i64 a 3 = 1 ∨ bits .and .i64 a 3 = 2 ∨ bits .and .i64 a 3 = 3 := by
  have h : bits .and .i64 a 3 = (((BitVec.ofInt 64 a) &&& (BitVec.ofInt 64 3)).toNat : Int) := by
    show IntKind.i64.wrap (((BitVec.ofInt 64 a) &&& (BitVec.ofInt 64 3)).toNat : Int) = _
    have h3 : ((BitVec.ofInt 64 a) &&& (BitVec.ofInt 64 3)).toNat ≤ 3 := by
      rw [BitVec.toNat_and]
      exact Nat.le_trans Nat.and_le_right (by decide)
    exact IntWalk.i64_in _ (by omega)
  have h3 : ((BitVec.ofInt 64 a) &&& (BitVec.ofInt 64 3)).toNat ≤ 3 := by
    rw [BitVec.toNat_and]
    exact Nat.le_trans Nat.and_le_right (by decide)
  omega

theorem own_n {w : World} {B n : Nat} {v : Value} {xs : List UInt8} (h : Own w B v ([] ++ xs)) (hl : xs.length = n) :
    ∃ A c, v = .slice A n c ∧ Src w A n xs ∧ (0 < n → ∃ g cur, A = some ⟨g, 0, none⟩ ∧ B ≤ g ∧ Blk w g 5 cur ∧ n ≤ cur.size) := by
  rw [List.nil_append] at h
  obtain ⟨A, c, hv, _, hs⟩ := h.src
  subst hl
  refine ⟨A, c, hv, hs, fun hp => ?_⟩
  obtain ⟨_, h0 | ⟨g, cap, cur, hv', hB, hh, hcap, _, hsz, _⟩⟩ := h
  · have := h0.2; omega
  · rw [hv] at hv'
    injection hv' with e1 e2 e3
    exact ⟨g, cur, e1, hB, hh, by omega⟩

theorem rd_grown {w w' : World} {r y : Nat} {st : Option (List UInt8)} {cs' : Array Value} (h : Rd w r st) (hy : Blk w y 33 cs') (hb : w.grownBy w' (some y)) : Rd w' r st := by
  cases st with
  | none => exact Blk.grown h hb (by have := Blk.ne_ h hy (by decide); simp [this])
  | some rest =>
    obtain ⟨g, off, cs, h1, h2, h3⟩ := h
    exact ⟨g, off, cs, h1.grown hb (by have := h1.ne_ hy (by decide); simp [this]), h2.grown hb (by have := h2.ne_ hy (by decide); simp [this]), h3⟩
theorem below_drew {B : Nat} {w w' : World} (h : Below B w w') (k : Nat) : Below B w (w'.drewN k) := ⟨h.os, h.tape, h.output, h.size, h.block⟩
theorem quietL {P : Program} {f : FuncId} {args : Array Value} {w : World} {n : Nat} {v : Value} (h : Calls P f args (w.drewN n) fun e w' => e = .returned v ∧ w.drewN n = w') :
    Calls P f args (w.drewN n) fun e w'' => e = .returned v ∧ ∃ m, w'' = w.drewN m := h.mono fun _ _ ⟨he, hm⟩ => ⟨he, n, hm.symm⟩
theorem conv_sl {w : World} {A : Option Addr} {n c : Nat} {zs : List UInt8} (h : Sl w (.slice A n c) zs) : (convert 22 9 (.slice A n c)).run Try.prog w = .ok (.string ⟨zs.toArray⟩) w := by
  obtain ⟨A', c', e, _, hs⟩ := h.src
  injection e with e1 e2 e3
  subst e1 e2 e3
  exact conv hs
theorem numS_rest {st : Option (List UInt8)} {n : Int} {B : Nat} (hl : ∀ rest, st = some rest → rest.length ≤ B) : ∀ rest, (numS st n).2 = some rest → rest.length ≤ B := takeS_rest hl
theorem vecS_rest {st : Option (List UInt8)} {n : Int} {B : Nat} (hl : ∀ rest, st = some rest → rest.length ≤ B) : ∀ rest, (vecS st n).2 = some rest → rest.length ≤ B := takeS_rest (numS_rest hl)

set_option maxRecDepth 100000 in
set_option maxHeartbeats 4000000 in
theorem walkInside (w : World) (A : Option Addr) (n c : Nat) (xs : List UInt8) (hnc : n ≤ c) (hc : c ≤ 9223372036854775807) (hs : Src w A n xs) (L : Option Addr) (ln lc : Nat) (F : Nat → Int × Int) (hF : CallsAt w L ln F) (hn : n ≤ 2000) (hln : ln ≤ 100) :
    Calls Try.prog 4 #[.slice A n c, .slice L ln lc] w fun e w' => e = .returned (.bool true) ∧ Below w.heap.size w w' := by
  have hd0 : decide ((2000 : Int) < (n : Int)) = false := by rw [decide_eq_false_iff_not]; omega
  have hd1 : decide ((100 : Int) < (ln : Int)) = false := by rw [decide_eq_false_iff_not]; omega
  have hinfo := Lib.hid info8
  go_enter Try.func4, Try.ntmps4
  go_wp2_with fail
  refine (small_any w).mono ?_
  rintro e w1 ⟨rfl, hb1⟩
  have HS := Lib.hid (hs.below hb1)
  have HF := Lib.hid (hF.below hb1)
  have HSa := Lib.hid ((hs.below hb1).alloc (.cells #[] 5))
  have HOa := Lib.hid (Own.empty w1 w1.heap.size (Nat.le_refl _))
  have HLEN : Hid (([] : List UInt8).length + n ≤ 140737488355328) := by show 0 + n ≤ _; omega
  clear hs hF
  go_wp2_with (at_builtin; refine wpList_app rfl (.tmp 21) (.tmp 22) 22 rfl Try.underlying22 hinfo.out w1.heap.size _ [] rfl HOa.out A n c xs rfl HSa.out HLEN.out (by simp) ?_; intro v2 w2 HO2 hb2; obtain ⟨A2, c2, rfl, hs2, hg2⟩ := own_n HO2.out HS.out.1; have HS2 := Lib.hid hs2; have HG2 := Lib.hid hg2; clear hs2 hg2)
  have hbw2 : Below w1.heap.size w1 w2 := ((Below.refl _ _).alloc (Nat.le_refl _) _).trans hb2
  clear hb2 HOa HSa HLEN HO2
  refine (read_exact A2 n c2 xs w2 HS2.out (by omega)).mono ?_
  rintro e w3 ⟨x, rfl, hx2, hbx, hbG, hb3⟩
  have hbw3 : Below w1.heap.size w1 w3 := hbw2.trans (hb3.mono hbw2.size)
  have hxl := hbx.lt
  have HX := Lib.hid (hbx.alloc (.cells #[.slice A n c, .int .i64 0, .bool false] 33))
  have HGG := Lib.hid (hbG.alloc (.cells #[.slice A n c, .int .i64 0, .bool false] 33))
  have HY := Lib.hid (Blk.new w3 33 #[.slice A n c, .int .i64 0, .bool false])
  have HI : Hid (0 < n → ∃ g cur, A2 = some ⟨g, 0, none⟩ ∧ w1.heap.size ≤ g ∧ g < w2.heap.size ∧ Blk (w3.alloc (.cells #[.slice A n c, .int .i64 0, .bool false] 33)) g 5 cur ∧ n ≤ cur.size) := by
    intro h0
    obtain ⟨g, cur, e, hg, hb, hcu⟩ := HG2.out h0
    exact ⟨g, cur, e, hg, hb.lt, (hb.below hb3 hb.lt).alloc _, hcu⟩
  have hbw4 : Below w1.heap.size w1 (w3.alloc (.cells #[.slice A n c, .int .i64 0, .bool false] 33)) := hbw3.alloc hbw3.size _
  have h12 := hbw2.size
  clear hbx hbG hb3 hbw3 HS2 HG2 hbw2
  go_wp2_with fail
  go_loopw [9] (fun iv wr => ∃ i : Nat, i ≤ n ∧ iv = .int .i64 (i : Int) ∧ Hid (Blk wr x 52 #[.slice (some ⟨w2.heap.size, 0, none⟩) n n, .bool false]) ∧ Hid (Blk wr w2.heap.size 5 (cellsOf xs).toArray) ∧ Hid (Blk wr w3.heap.size 33 #[.slice A n c, .int .i64 0, .bool false]) ∧
      Hid (0 < n → ∃ g cur, A2 = some ⟨g, 0, none⟩ ∧ w1.heap.size ≤ g ∧ g < w2.heap.size ∧ Blk wr g 5 cur ∧ n ≤ cur.size) ∧ Below w1.heap.size w1 wr) (fun iv _ => n - (intOf iv).toNat)
  case atStart => exact ⟨0, Nat.zero_le _, rfl, HX, HGG, HY, HI, hbw4⟩
  case round =>
    clear HX HGG HY HI hbw4
    obtain ⟨i, hi, rfl, HX, HGG, HY, HI, hbw⟩ := hrel
    by_cases hlt : i < n
    · obtain ⟨g, cur, rfl, hg1, hg2, hb, hcu⟩ := HI.out (by omega)
      obtain ⟨u0, hu0⟩ : ∃ u, cur[i]? = some u := ⟨_, Array.getElem?_eq_getElem (by omega)⟩
      have hcell : wr.cell? ⟨g, i, none⟩ = some u0 := by rw [hb.cell, hu0]
      have hfr := hb.frozen i
      have HB := Lib.hid hb
      clear hu0 hb
      go_wp2_with fail
      go_roundw
      case rel =>
        refine ⟨i + 1, by omega, by go_num, HX.out.far (p := ⟨g, i, none⟩) (by show x ≠ g; omega) _, HGG.out.far (p := ⟨g, i, none⟩) (by show w2.heap.size ≠ g; omega) _, HY.out.far (p := ⟨g, i, none⟩) (by show w3.heap.size ≠ g; omega) _, ?_, hbw.setCell (p := ⟨g, i, none⟩) hg1 _⟩
        exact fun _ => ⟨g, _, rfl, hg1, hg2, HB.out.set_ i _, by rw [Array.size_setIfInBounds]; exact hcu⟩
      case measure => simp [intOf]; omega
    · obtain rfl : i = n := by omega
      have hRd : Rd wr x (some xs) := ⟨w2.heap.size, 0, _, by rw [HS.out.1]; exact HX.out, HGG.out, fun j c hj => by simpa using cellsOf_get hj⟩
      have hRR : RR wr w3.heap.size A i c xs (some xs) := ⟨0, false, HY.out, Nat.zero_le _, rfl⟩
      have HRD := Lib.hid hRd
      have HRR := Lib.hid hRR
      have hyw : w1.heap.size ≤ w3.heap.size := by omega
      have hxw : w1.heap.size ≤ x := by omega
      have hxy : x ≠ w3.heap.size := by omega
      have HFar : Hid (Far A i w3.heap.size) := by
        intro h0 ad e
        obtain ⟨ad', e', hb, _⟩ := HS.out.2 h0
        rw [e] at e'
        injection e' with e'
        subst e'
        omega
      have HSt : Hid (∀ rest, some xs = some rest → rest.length ≤ 2000) := by
        intro rest h
        injection h with h
        subst h
        have := HS.out.1
        omega
      clear hRd hRR HX HGG HY HI
      generalize w3.heap.size = y at *
      go_wp2_with fail
      go_loopw [10] (fun kv wr => ∃ k st, k ≤ ln ∧ kv = .int .i64 (k : Int) ∧ Hid (Rd wr x st) ∧ Hid (RR wr y A i c xs st) ∧ Hid (∀ rest, st = some rest → rest.length ≤ 2000) ∧ Below w1.heap.size w1 wr) (fun kv _ => ln - (intOf kv).toNat)
      case atStart => exact ⟨0, _, Nat.zero_le _, rfl, HRD, HRR, HSt, hbw⟩
      case round =>
        clear HRD HRR HSt hbw
        obtain ⟨k, st, hk, rfl, HRD, HRR, HSt, hbw⟩ := hrel
        by_cases hlt2 : k < ln
        · obtain ⟨b, o, rfl, hadb, hce1, hce2⟩ := HF.out k hlt2
          generalize hFk : F k = fk at *
          obtain ⟨a, q⟩ := fk
          clear hFk
          have hcA : wr.cell? ⟨b, o + k * 2, none⟩ = some (.int .i64 a) := (hbw.cell (p := ⟨b, _, none⟩) hadb).trans hce1
          have hcB : wr.cell? ⟨b, o + k * 2 + 1, none⟩ = some (.int .i64 q) := (hbw.cell (p := ⟨b, _, none⟩) hadb).trans hce2
          have HCA := Lib.hid hce1
          have HCB := Lib.hid hce2
          clear hce1 hce2
          have HL : Hid (∀ rest, st = some rest → rest.length ≤ 140737488355320) := fun rest h => by have := HSt.out rest h; omega
          have HSr : Hid (∀ w', Below w1.heap.size w1 w' → Src w' A i xs) := fun w' h => HS.out.below h
          have HCr : Hid (∀ w', Below w1.heap.size w1 w' → w'.cell? ⟨b, o + k * 2 + 1, none⟩ = some (.int .i64 q)) := fun w' h => (h.cell (p := ⟨b, _, none⟩) hadb).trans HCB.out
          have hq4 := and3 a
          go_upto_block 4 with fail
          generalize bits .and .i64 a 3 = dd at *
          go_cut [52] (fun _ wx => ∃ st', Hid (Rd wx x st') ∧ Hid (RR wx y A i c xs st') ∧ Hid (∀ rest, st' = some rest → rest.length ≤ 2000) ∧ Below w1.heap.size w1 wx)
          case first =>
            rcases hq4 with rfl | rfl | rfl | rfl
            · go_wp2_with fail
              go_region_held (fun w' => w'.cell? ⟨b, o + k * 2 + 1, none⟩ = some (.int .i64 q)) (first | exact hcB | exact hcB5 | exact hcB6)
                (first
                  | (go_at_call 15; refine (num_any x q st _ (by exact HRD.out) HL.out).mono ?_; rintro e w5 ⟨rfl, hrd5, hg5⟩; have hb5 : Below w1.heap.size w1 w5 := below_of_only hbw.drew hg5 hbw.size hxw; have hcB5 := HCr.out w5 hb5; have HRD5 := Lib.hid hrd5; have HRR5 := Lib.hid (RR.grown (w := wr.drew) HRR.out hg5 (Ne.symm hxy)); clear hrd5 hg5)
                  | (go_at_call 16; refine (rnum_any y A i c xs st q _ (by exact HRR5.out) (by omega) hnc hc (HSr.out _ hb5)).mono ?_; rintro e w6 ⟨rfl, hrr6, hg6⟩; have hb6 : Below w1.heap.size w1 w6 := below_of_only hb5 hg6 hb5.size hyw; have hcB6 := HCr.out w6 hb6; have HRR6 := Lib.hid hrr6; obtain ⟨cy, hcy⟩ := HRR5.out.blk; have HRD6 := Lib.hid (rd_grown HRD5.out hcy hg6); clear hrr6 hg6 hcy))
              all_goals (go_wp2_with fail; go_meet; exact ⟨_, HRD6, HRR6, numS_rest HSt.out, hb6⟩)
            · go_wp2_with fail
              go_region_held (fun w' => w'.cell? ⟨b, o + k * 2 + 1, none⟩ = some (.int .i64 q)) (first | exact hcB | exact hcB5 | exact hcB6)
                (first
                  | (go_at_call 17; refine (take_any x q st _ (by exact HRD.out) HL.out).mono ?_; rintro e w5 ⟨v5, rfl, hsl5, hrd5, hg5⟩; obtain ⟨A5, c5, rfl, _, hs5⟩ := hsl5.src; have hb5 : Below w1.heap.size w1 w5 := below_of_only hbw.drew hg5 hbw.size hxw; have hcB5 := HCr.out w5 hb5; have HRD5 := Lib.hid hrd5; have HRR5 := Lib.hid (RR.grown (w := wr.drew) HRR.out hg5 (Ne.symm hxy)); have k5 := conv (c := c5) hs5; have HS5 := Lib.hid hsl5; clear hrd5 hg5 hs5 hsl5)
                  | (go_at_call 18; refine (rtake_any y A i c xs st q _ (by exact HRR5.out) (by omega) hnc hc (HSr.out _ hb5)).mono ?_; rintro e w6 ⟨A6, c6, rfl, hs6, hrr6, hg6⟩; have hb6 : Below w1.heap.size w1 w6 := below_of_only hb5 hg6 hb5.size hyw; have hcB6 := HCr.out w6 hb6; have HRR6 := Lib.hid hrr6; obtain ⟨cy, hcy⟩ := HRR5.out.blk; have HRD6 := Lib.hid (rd_grown HRD5.out hcy hg6); have k6 := conv (c := c6) hs6; have k56 := conv_sl (Sl.grown HS5.out hcy (by decide) hg6); clear hrr6 hg6 hcy hs6))
              all_goals (go_wp2_with fail; go_meet; exact ⟨_, HRD6, HRR6, takeS_rest HSt.out, hb6⟩)
            · go_wp2_with fail
              go_region_held (fun w' => w'.cell? ⟨b, o + k * 2 + 1, none⟩ = some (.int .i64 q)) (first | exact hcB | exact hcB5 | exact hcB6)
                (first
                  | (go_at_call 19; refine (rvec_any x q st _ (by exact HRD.out) HL.out).mono ?_; rintro e w5 ⟨v5, rfl, hsl5, hrd5, hg5⟩; obtain ⟨A5, c5, rfl, _, hs5⟩ := hsl5.src; have hb5 : Below w1.heap.size w1 w5 := below_of_only hbw.drew hg5 hbw.size hxw; have hcB5 := HCr.out w5 hb5; have HRD5 := Lib.hid hrd5; have HRR5 := Lib.hid (RR.grown (w := wr.drew) HRR.out hg5 (Ne.symm hxy)); have k5 := conv (c := c5) hs5; have HS5 := Lib.hid hsl5; clear hrd5 hg5 hs5 hsl5)
                  | (go_at_call 20; refine (rrvec_any y A i c xs st q _ (by exact HRR5.out) (by omega) hnc hc (HSr.out _ hb5) HFar.out).mono ?_; rintro e w6 ⟨A6, c6, rfl, hs6, hrr6, hg6⟩; have hb6 : Below w1.heap.size w1 w6 := below_of_only hb5 hg6 hb5.size hyw; have hcB6 := HCr.out w6 hb6; have HRR6 := Lib.hid hrr6; obtain ⟨cy, hcy⟩ := HRR5.out.blk; have HRD6 := Lib.hid (rd_grown HRD5.out hcy hg6); have k6 := conv (c := c6) hs6; have k56 := conv_sl (Sl.grown HS5.out hcy (by decide) hg6); clear hrr6 hg6 hcy hs6))
              all_goals (go_wp2_with fail; go_meet; exact ⟨_, HRD6, HRR6, vecS_rest HSt.out, hb6⟩)
            · go_wp2_with fail
              go_region_held (fun w' => w'.cell? ⟨b, o + k * 2 + 1, none⟩ = some (.int .i64 q)) (first | exact hcB | exact hcB5 | exact hcB6)
                (first
                  | (go_at_call 15; refine (num_any x q st _ (by exact HRD.out) HL.out).mono ?_; rintro e w5 ⟨rfl, hrd5, hg5⟩; have hb5 : Below w1.heap.size w1 w5 := below_of_only hbw.drew hg5 hbw.size hxw; have hcB5 := HCr.out w5 hb5; have HRD5 := Lib.hid hrd5; have HRR5 := Lib.hid (RR.grown (w := wr.drew) HRR.out hg5 (Ne.symm hxy)); clear hrd5 hg5)
                  | (go_at_call 16; refine (rnum_any y A i c xs st q _ (by exact HRR5.out) (by omega) hnc hc (HSr.out _ hb5)).mono ?_; rintro e w6 ⟨rfl, hrr6, hg6⟩; have hb6 : Below w1.heap.size w1 w6 := below_of_only hb5 hg6 hb5.size hyw; have hcB6 := HCr.out w6 hb6; have HRR6 := Lib.hid hrr6; obtain ⟨cy, hcy⟩ := HRR5.out.blk; have HRD6 := Lib.hid (rd_grown HRD5.out hcy hg6); clear hrr6 hg6 hcy))
              all_goals (go_wp2_with fail; go_meet; exact ⟨_, HRD6, HRR6, numS_rest HSt.out, hb6⟩)
          case rest =>
            obtain ⟨st', HRD', HRR', HSt', hbw'⟩ := hcut
            clear HRD HRR HSt hbw hcA hcB HL HSr HCr HCA HCB
            obtain ⟨a', off, hby, _, hst⟩ := HRR'.out
            have hc2 : wc.cell? ⟨y, 2, none⟩ = some (.bool off) := by rw [hby.cell]; rfl
            have HLL := Lib.hid HS.out.1
            clear hby
            cases off with
            | true =>
              have hst' : st' = none := hst
              subst hst'
              clear hst
              go_wp2_with fail
              go_quiet (first | (go_at_call 21; exact quietL (left_any x none _ HRD'.out)) | (go_at_call 22; exact Calls.quiet_of (rleft_any y A i c xs none _ HRR'.out HLL.out (by omega))) | (go_at_call 23; exact quietL (bad_any x none _ HRD'.out)) | (go_at_call 24; exact quietL (done_any x none _ HRD'.out)))
              go_wp2_with fail
              exact ⟨⟨k + 1, none, by omega, by go_num, HRD'.out, HRR'.out, HSt', below_drew hbw' _⟩, by simp [intOf]; omega⟩
            | false =>
              have hst' : st' = some (xs.drop a') := hst
              subst hst'
              clear hst
              generalize xs.drop a' = rest at *
              have hde : ((leftS (some rest) : Int) == 0) = doneS (some rest) := by
                show (((rest.length : Nat) : Int) == 0) = rest.isEmpty
                rw [Bool.eq_iff_iff]; simp
              go_wp2_with fail
              go_quiet (first | (go_at_call 21; exact quietL (left_any x (some rest) _ HRD'.out)) | (go_at_call 22; exact Calls.quiet_of (rleft_any y A i c xs (some rest) _ HRR'.out HLL.out (by omega))) | (go_at_call 23; exact quietL (bad_any x (some rest) _ HRD'.out)) | (go_at_call 24; exact quietL (done_any x (some rest) _ HRD'.out)))
              go_wp2_with fail
              exact ⟨⟨k + 1, some rest, by omega, by go_num, HRD'.out, HRR'.out, HSt', below_drew hbw' _⟩, by simp [intOf]; omega⟩
        · obtain rfl : k = ln := by omega
          go_wp2_with fail
          go_ret
          exact ⟨rfl, hb1.trans (hbw.mono hb1.size)⟩

set_option maxRecDepth 100000 in
set_option maxHeartbeats 1000000 in
theorem walk (w : World) (A : Option Addr) (n c : Nat) (xs : List UInt8) (hnc : n ≤ c) (hc : c ≤ maxLen) (hs : Src w A n xs) (L : Option Addr) (ln lc : Nat) (F : Nat → Int × Int) (_ : ln ≤ lc) (_ : lc ≤ maxLen) (hF : CallsAt w L ln F) :
    Calls Try.prog 4 #[.slice A n c, .slice L ln lc] w fun e w' => e = .returned (.bool true) ∧ Below w.heap.size w w' := by
  by_cases hn : n ≤ 2000
  · by_cases hl : ln ≤ 100
    · exact walkInside w A n c xs hnc (by unfold maxLen at hc; exact hc) hs L ln lc F hF hn hl
    · have hd0 : decide ((2000 : Int) < (n : Int)) = false := by rw [decide_eq_false_iff_not]; omega
      have hd1 : decide ((100 : Int) < (ln : Int)) = true := by rw [decide_eq_true_iff]; omega
      go_enter Try.func4, Try.ntmps4
      go_wp2_with fail
      refine (small_any w).mono ?_
      rintro e w1 ⟨rfl, hb1⟩
      go_wp2_with fail
      go_ret
      exact ⟨rfl, hb1⟩
  · have hd0 : decide ((2000 : Int) < (n : Int)) = true := by rw [decide_eq_true_iff]; omega
    go_enter Try.func4, Try.ntmps4
    go_wp2_with fail
    refine (small_any w).mono ?_
    rintro e w1 ⟨rfl, hb1⟩
    go_wp2_with fail
    go_ret
    exact ⟨rfl, hb1⟩

set_option maxRecDepth 100000 in
set_option linter.unusedVariables false in
theorem lifted (os : Os) (started : os.Started) (H : Type) (enc : TypeId × Value → H) :
    ReturnsInHanded {} Try.checked os 4 .any (Rows.beReadsSpec.pre6 enc Try.prog Try.f4 Rows.beReadsRow.domain false) (Rows.beReadsSpec.post enc Try.prog Try.f4 false true false false) := by
  refine returnsInHanded_of_change (C := Try.checked) own started (by kernel_rfl) Try.func4
    (ChangeSpec.witness6 (enc := enc) (C := Try.checked) false ⟨#[], #[.slice none 0 0, .slice none 0 0], []⟩ 8 (by kernel_rfl) (by kernel_rfl) (by kernel_rfl) (by kernel_rfl)) ?_
  intro W base args ds gs before hval0 hW hcnd _
  have hval : ∀ (j : Nat) t v, Try.f4.params[j]? = some t → args[j]? = some v → Value.okWide Try.prog W .any base t v := hval0
  have hW' := hW
  obtain ⟨p, q, hA0, hV, rfl, hfz, hnd⟩ := hW
  have hA : DataW.TrodAll enc Try.prog W 0 (fun _ => true) true Try.f4.params.toList args.toList ds p := hA0
  rw [Try.params4] at hA hval
  obtain ⟨v0, vs0, d0, ds0, p0, q0, hargs, rfl, rfl, h0, r0⟩ := trodAll_cons hA
  obtain ⟨v1, vs1, d1, ds1, p1, q1, rfl, rfl, rfl, h1, r1⟩ := trodAll_cons r0
  obtain ⟨rfl, rfl, rfl⟩ := trodAll_nil r1
  obtain rfl : args = #[v0, v1] := by cases args; simp_all
  obtain ⟨rfl, rfl⟩ := trodVars_none hV
  have k0 := h0
  have lt0 : ∀ x ∈ p0, x.block < W.heap.size := by obtain ⟨m, hm⟩ := k0; exact DataW.trod_lt m _ _ _ hm
  obtain ⟨A0, n0, cap0, xs0, rfl, le0, mx0, src0⟩ := open_bytes (hval 0 22 v0 rfl rfl) h0
  have k1 := h1
  have lt1 : ∀ x ∈ p1, x.block < W.heap.size := by obtain ⟨m, hm⟩ := k1; exact DataW.trod_lt m _ _ _ hm
  obtain ⟨A1, n1, cap1, xs1, rfl, le1, mx1, src1⟩ := open_calls (hval 1 28 v1 rfl rfl) h1
  clear hA0 hval0
  refine (walk W A0 n0 cap0 xs0 le0 mx0 src0 A1 n1 cap1 xs1 le1 mx1 src1).mono fun e W' ⟨he, bel⟩ => ?_
  subst he
  exact ⟨_, rfl, _, _, _, [], _, [], hW', trodAll_mk1 (shut_bool Try.underlying4 _), (trodAll_cons_mk (Below.trod laidOut (by kernel_rfl) (of_decide_eq_true (by kernel_rfl)) k0 bel lt0) (trodAll_cons_mk (Below.trod laidOut (by kernel_rfl) (of_decide_eq_true (by kernel_rfl)) k1 bel lt1) trodAll_mk0)), rfl, bel.frame _, fun h => by cases h⟩

theorem over : Rows.beReadsRow.holds Try.pinned (OpenSpec.ofChange Rows.beReadsSpec) :=
  OpenClaim.holds_of_wide 4 Try.f4 rfl rfl rfl rfl rfl rfl rfl ⟨rfl, rfl, rfl, rfl, rfl⟩ rfl rfl rfl rfl rfl (by kernel_rfl) Try.func4 (by kernel_rfl)
    (of_decide_eq_true (by kernel_rfl)) (by unfold Func.isWrapper; first | (rw [if_pos (by decide +kernel)]; kernel_rfl) | (rw [if_neg (by decide +kernel)]; exact ⟨rfl, rfl⟩))
    (fun os started H enc _ => lifted os started H enc)

theorem proved : Rows.BeReadsSaid := over
#print axioms proved
end Go.Proofs.Yteikjoafabldpaa.beReads
