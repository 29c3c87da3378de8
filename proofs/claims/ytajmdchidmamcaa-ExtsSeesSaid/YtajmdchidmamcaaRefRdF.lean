/-
  Contracts of the document's own Reader of layer 1 (hagioscoperef01): Take, Left; what Take answers is the call's own.
-/
import Derived.Test.YtajmdchidmamcaaRefBe
import Derived.Test.YtajmdchidmamcaaOwn
import Derived.Deep.QuietTactic
import Derived.BigQuiet
import Derived.Deep.RegionHeld3
import Derived.Deep.DeepCutAuto
namespace Go.Proofs.Ytajmdchidmamcaa.RefBe
open Go.RowKit Go.Proofs.Ytajmdchidmamcaa.Wd Go.Proofs.Ytajmdchidmamcaa.Be

/-- the document's reader at block y: over the bytes xs (of the slice A, n, c), at some place, bad or not -/
def RR (w : World) (y : Nat) (A : Option Addr) (n c : Nat) (xs : List UInt8) (st : Option (List UInt8)) : Prop :=
  ∃ (at_ : Nat) (off : Bool), Blk w y 66 #[.slice A n c, .int .i64 (at_ : Int), .bool off] ∧ at_ ≤ n ∧ st = if off then none else some (xs.drop at_)
theorem RR.blk {w : World} {y : Nat} {A : Option Addr} {n c : Nat} {xs : List UInt8} {st : Option (List UInt8)} (h : RR w y A n c xs st) : ∃ cs, Blk w y 66 cs := by
  obtain ⟨a, o, hb, _⟩ := h; exact ⟨_, hb⟩
theorem RR.grown {w w' : World} {y r : Nat} {A : Option Addr} {n c : Nat} {xs : List UInt8} {st : Option (List UInt8)} (h : RR w y A n c xs st) (hb : w.grownBy w' (some r)) (hne : y ≠ r) : RR w' y A n c xs st := by
  obtain ⟨a, o, h1, h2⟩ := h; exact ⟨a, o, h1.grown hb (by simp [hne]), h2⟩

theorem set3_1 (a b c x : Value) : (#[a, b, c] : Array Value).setIfInBounds 1 x = #[a, x, c] := by simp
theorem set3_2 (a b c x : Value) : (#[a, b, c] : Array Value).setIfInBounds 2 x = #[a, b, x] := by simp

def RTakePost (w : World) (y : Nat) (A : Option Addr) (n c : Nat) (xs : List UInt8) (p : List UInt8 × Option (List UInt8)) (e : Ending) (w' : World) : Prop :=
  ∃ v, e = .returned v ∧ Own w' w.heap.size v p.1 ∧ RR w' y A n c xs p.2 ∧ w.grownBy w' (some y)

theorem rleft_any (y : Nat) (A : Option Addr) (n c : Nat) (xs : List UInt8) (st : Option (List UInt8)) (w : World) (hr : RR w y A n c xs st) (hl : xs.length = n) (hn : n ≤ 100000) :
    Calls Try.prog 34 #[.pointer (some ⟨y, 0, none⟩)] w fun e w' => e = .returned (.int .i64 (leftS st : Int)) ∧ ∃ k, w' = w.drewN k := by
  obtain ⟨a, off, hb, ha, rfl⟩ := hr
  have hc0 : w.cell? ⟨y, 0, none⟩ = some (.slice A n c) := by rw [hb.cell]; rfl
  have hc1 : w.cell? ⟨y, 1, none⟩ = some (.int .i64 (a : Int)) := by rw [hb.cell]; rfl
  have hc2 : w.cell? ⟨y, 2, none⟩ = some (.bool off) := by rw [hb.cell]; rfl
  clear hb
  cases off with
  | true =>
    go_enter Try.func34, Try.ntmps34
    go_wp2
    go_ret
    exact ⟨rfl, 0, rfl⟩
  | false =>
    have Hf : Hid (leftS (some (xs.drop a)) = n - a) := by
      show (xs.drop a).length = n - a
      rw [List.length_drop, hl]
    clear hl
    have hw : IntKind.i64.wrap ((n : Int) - (a : Int)) = (n : Int) - (a : Int) := IntWalk.i64_in _ (by omega)
    go_enter Try.func34, Try.ntmps34
    go_wp2
    go_quiet (fail)
    go_wp2
    go_ret
    rw [Hf.out]
    exact ⟨congrArg (fun z => Ending.returned (.int .i64 z)) (by omega), _, rfl⟩

section
variable {P : Program} {w : World}
theorem step_app {ops : Array Oper} {o : Oper} {a : Act} {K : Act → World → Prop} {Q : Exit → Act → World → Prop} {E : Prop} (hgd : o.guard = none) (s x : Operand) (t : TypeId)
    (ho : o.op = .call { callee := .builtin .append, args := #[s, x], argTypes := #[t, t] }) (ht : P.underlying t = some (.slice 5)) (hinfo : (P.info? 5).map (fun i => (i.zero, i.size, i.bytes)) = some (some (.int .u8 0), 1, 1))
    (B : Nat) (v : Value) (xs : List UInt8) (hs : a.eval s = v) (hown : Own w B v xs) (A : Option Addr) (m c : Nat) (ys : List UInt8) (hx : a.eval x = .slice A m c) (hsrc : Src w A m ys)
    (hlen : xs.length + m ≤ 140737488355328) (hB : B ≤ w.heap.size)
    (h : ∀ v' w', Hid (Own w' B v' (xs ++ ys)) → Below B w w' → K (a.put o.dst v') w') :
    if Region.wanted o (yielded ops a.tmps) = true then Oper.wp P o a w K Q else E := by
  have hw : Region.wanted o (yielded ops a.tmps) = true := by simp [Region.wanted, hgd]
  rw [if_pos hw]
  obtain ⟨i0, hi, hz0, hz1, hz2⟩ := info_parts hinfo
  obtain ⟨v', w', hrun, h2, h3⟩ := run_app (ty := o.type) ht hi hz0 hz1 hz2 hown (c := c) hsrc hlen hB
  unfold Oper.wp execOp
  simp only [ho, resolve, invoke, builtin, Sem.run_bind, Sem.run_pure, Result.andThen_ok, List.map_toArray, List.map_cons, List.map_nil, hs, hx, hrun]
  exact h v' w' h2 h3
end

theorem below_drewN {w w' : World} {B : Nat} (k : Nat) (h : Below B (w.drewN k) w') : Below B w w' := ⟨h.os, h.tape, h.output, h.size, h.block⟩
theorem only_drewN (w : World) (k : Nat) (row : Option Nat) : w.grownBy (w.drewN k) row := ⟨rfl, rfl, rfl, Nat.le_refl _, fun _ _ _ => rfl⟩

/-- the reader's beginning: w1 is the world in which the bytes came in -/
theorem rtake_bad (y : Nat) (A : Option Addr) (n c a : Nat) (xs : List UInt8) (q : Int) (w : World) (hb : Blk w y 66 #[.slice A n c, .int .i64 (a : Int), .bool true]) (ha : a ≤ n) :
    Calls Try.prog 62 #[.pointer (some ⟨y, 0, none⟩), .int .i64 q] w (RTakePost w y A n c xs ([], none)) := by
  have hc2 : w.cell? ⟨y, 2, none⟩ = some (.bool true) := by rw [hb.cell]; rfl
  have hf2 := hb.frozen 2
  have HB := Lib.hid hb
  clear hb
  go_enter Try.func62, Try.ntmps62
  go_wp2
  go_quiet (fail)
  go_wp2
  go_ret
  refine ⟨_, rfl, ⟨rfl, .inl ⟨rfl, rfl⟩⟩, ⟨a, true, ?_, ha, rfl⟩, ?_⟩
  · have h := HB.out.set_ 2 (.bool true)
    rw [set3_2] at h
    exact h
  · exact only_setCell (p := ⟨y, 2, none⟩) (only_drewN w _ (some y)) (.inl rfl) (.bool true)

set_option maxHeartbeats 800000 in
theorem rtake_out (y : Nat) (A : Option Addr) (n c a : Nat) (xs : List UInt8) (q : Int) (w : World) (hb : Blk w y 66 #[.slice A n c, .int .i64 (a : Int), .bool false]) (ha : a ≤ n) (hn : n ≤ 100000) (hq : ¬ (0 ≤ q ∧ q ≤ (n : Int) - a)) :
    Calls Try.prog 62 #[.pointer (some ⟨y, 0, none⟩), .int .i64 q] w (RTakePost w y A n c xs ([], none)) := by
  have hc0 : w.cell? ⟨y, 0, none⟩ = some (.slice A n c) := by rw [hb.cell]; rfl
  have hc1 : w.cell? ⟨y, 1, none⟩ = some (.int .i64 (a : Int)) := by rw [hb.cell]; rfl
  have hc2 : w.cell? ⟨y, 2, none⟩ = some (.bool false) := by rw [hb.cell]; rfl
  have hf2 := hb.frozen 2
  have HB := Lib.hid hb
  have hw : IntKind.i64.wrap ((n : Int) - (a : Int)) = (n : Int) - (a : Int) := IntWalk.i64_in _ (by omega)
  clear hb
  by_cases h0 : q < 0
  · have hd : decide (q < 0) = true := by simpa using h0
    clear hq
    go_enter Try.func62, Try.ntmps62
    go_wp2
    go_quiet (fail)
    go_wp2
    go_ret
    refine ⟨_, rfl, ⟨rfl, .inl ⟨rfl, rfl⟩⟩, ⟨a, true, ?_, ha, rfl⟩, only_setCell (p := ⟨y, 2, none⟩) (only_drewN w _ (some y)) (.inl rfl) (.bool true)⟩
    have h := HB.out.set_ 2 (.bool true)
    rw [set3_2] at h
    exact h
  · have hd : decide (q < 0) = false := by simpa using h0
    have hd2 : decide ((n : Int) - (a : Int) < q) = true := by rw [decide_eq_true_iff]; omega
    clear hq
    go_enter Try.func62, Try.ntmps62
    go_wp2
    go_quiet (fail)
    go_wp2
    go_ret
    refine ⟨_, rfl, ⟨rfl, .inl ⟨rfl, rfl⟩⟩, ⟨a, true, ?_, ha, rfl⟩, only_setCell (p := ⟨y, 2, none⟩) (only_drewN w _ (some y)) (.inl rfl) (.bool true)⟩
    have h := HB.out.set_ 2 (.bool true)
    rw [set3_2] at h
    exact h

theorem Src.sub {w : World} {ad : Addr} {n a q : Nat} {xs : List UInt8} (h : Src w (some ad) n xs) (hq : a + q ≤ n) : Src w (some (ad.add a)) q ((xs.drop a).take q) := by
  refine ⟨by rw [List.length_take, List.length_drop, h.1]; omega, fun hp => ?_⟩
  obtain ⟨ad', e, hb, hc⟩ := h.2 (by omega)
  injection e with e
  subst e
  refine ⟨_, rfl, by rw [block_of_add]; exact hb, fun j c hj => ?_⟩
  rw [List.getElem?_take] at hj
  split at hj
  · rw [List.getElem?_drop] at hj
    rw [add_of_add]
    exact hc _ _ hj
  · cases hj
theorem Src.zero (w : World) (A : Option Addr) (xs : List UInt8) (a q : Nat) (h : q = 0) : Src w A q ((xs.drop a).take q) := by
  subst h; exact ⟨by simp, fun h0 => absurd h0 (by omega)⟩
theorem own_setCell {w : World} {B : Nat} {v : Value} {xs : List UInt8} (h : Own w B v xs) {p : Addr} (hp : p.block < B) (u : Value) : Own (w.setCell p u) B v xs := ownsRow_setCell_below h hp u

set_option maxHeartbeats 1600000 in
theorem rtake_full (y : Nat) (ad : Addr) (n : Nat) (xs : List UInt8) (w : World) (hb : Blk w y 66 #[.slice (some ad) n n, .int .i64 (n : Int), .bool false]) (hn : n ≤ 100000) :
    Calls Try.prog 62 #[.pointer (some ⟨y, 0, none⟩), .int .i64 0] w (RTakePost w y (some ad) n n xs ([], some (xs.drop n))) := by
  have hc0 : w.cell? ⟨y, 0, none⟩ = some (.slice (some ad) n n) := by rw [hb.cell]; rfl
  have hc1 : w.cell? ⟨y, 1, none⟩ = some (.int .i64 (n : Int)) := by rw [hb.cell]; rfl
  have hc2 : w.cell? ⟨y, 2, none⟩ = some (.bool false) := by rw [hb.cell]; rfl
  have hf1 := hb.frozen 1
  have HB := Lib.hid hb
  have hyl := hb.lt
  have hinfo := Lib.hid info8
  clear hb
  go_enter Try.func62, Try.ntmps62
  go_wp2
  go_quiet (fail)
  go_wp2_with fail
  have hw2 : IntKind.i64.wrap (n : Int) = (n : Int) := IntWalk.i64_in _ (by omega)
  have HSUB : Hid (∀ k, Src ((w.drewN k).alloc (.cells #[] 5)) (some ad) 0 []) := fun k => ⟨rfl, fun h => absurd h (by omega)⟩
  have HLEN : Hid (([] : List UInt8).length + 0 ≤ 140737488355328) := by show 0 + 0 ≤ _; omega
  have HOWN : Hid (∀ k, Own ((w.drewN k).alloc (.cells #[] 5)) w.heap.size (.slice (some ⟨w.heap.size, 0, none⟩) 0 0) []) := fun k => Own.empty (w.drewN k) w.heap.size (Nat.le_refl _)
  have HSIZE : Hid (∀ k, w.heap.size ≤ ((w.drewN k).alloc (.cells #[] 5)).heap.size) := fun k => by show w.heap.size ≤ (w.heap.push _).size; simp
  have HBEL : Hid (∀ k w', Below w.heap.size ((w.drewN k).alloc (.cells #[] 5)) w' → Below w.heap.size w w') := fun k w' h => (below_drewN k ((Below.refl _ _).alloc (Nat.le_refl _) _)).trans h
  have HD0 : Hid (∀ w', Below w.heap.size w w' → w'.cell? ⟨y, 0, none⟩ = some (.slice (some ad) n n)) := fun w' h => (h.cell (p := ⟨y, 0, none⟩) hyl).trans hc0
  have HD1 : Hid (∀ w', Below w.heap.size w w' → w'.cell? ⟨y, 1, none⟩ = some (.int .i64 (n : Int))) := fun w' h => (h.cell (p := ⟨y, 1, none⟩) hyl).trans hc1
  go_upto_region 4 with fail
  go_cut [5] (fun v5 wx => Own wx w.heap.size v5 [] ∧ Below w.heap.size w wx)
  case first =>
    go_region_held3 (fun w' => w'.cell? ⟨y, 0, none⟩ = some (.slice (some ad) n n) ∧ w'.cell? ⟨y, 1, none⟩ = some (.int .i64 (n : Int)))
      (go_keep)
      (first
        | (refine step_app rfl (.tmp 31) (.tmp 46) 22 rfl Try.underlying22 hinfo.out w.heap.size _ [] rfl ?_ _ 0 _ [] rfl ?_ ?_ ?_ ?_; exact HOWN.out _; exact HSUB.out _; exact HLEN.out; exact HSIZE.out _; intro v1 w1 HO1 hb1; have hbw1 := HBEL.out _ _ hb1; have hd0 := HD0.out _ hbw1; have hd1 := HD1.out _ hbw1))
    all_goals (go_wp2_with fail; go_meet; exact ⟨HO1.out, hbw1⟩)
  case rest =>
    obtain ⟨hown, hbw⟩ := hcut
    have hd1 : wc.cell? ⟨y, 1, none⟩ = some (.int .i64 (n : Int)) := (hbw.cell (p := ⟨y, 1, none⟩) hyl).trans hc1
    have hg1 : wc.frozen? ⟨y, 1, none⟩ = false := (hbw.frozen (p := ⟨y, 1, none⟩) hyl).trans hf1
    obtain ⟨A5, c5, rfl, _, _⟩ := hown.src
    have HO := Lib.hid hown
    clear hown hc1 hf1 hc0 hc2
    go_wp2_with fail
    go_ret
    refine ⟨_, rfl, own_setCell HO.out (p := ⟨y, 1, none⟩) hyl _, ⟨n, false, ?_, by omega, rfl⟩, only_setCell (p := ⟨y, 1, none⟩) (only_of_below hbw _) (.inl rfl) _⟩
    · have h := (HB.out.below hbw hyl).set_ 1 (.int .i64 (n : Int))
      rw [set3_1] at h
      exact h

set_option maxHeartbeats 1600000 in
theorem rtake_in (y : Nat) (A : Option Addr) (n c a q : Nat) (xs : List UInt8) (w : World) (hb : Blk w y 66 #[.slice A n c, .int .i64 (a : Int), .bool false]) (ha : a ≤ n) (hn : n ≤ 100000) (hnc : n ≤ c) (hc : c ≤ 9223372036854775807) (hq : q ≤ n - a)
    (hs : Src w A n xs) (hne : ¬ ∃ ad, A = some ad ∧ c = a) :
    Calls Try.prog 62 #[.pointer (some ⟨y, 0, none⟩), .int .i64 (q : Int)] w (RTakePost w y A n c xs ((xs.drop a).take q, some (xs.drop (a + q)))) := by
  have hc0 : w.cell? ⟨y, 0, none⟩ = some (.slice A n c) := by rw [hb.cell]; rfl
  have hc1 : w.cell? ⟨y, 1, none⟩ = some (.int .i64 (a : Int)) := by rw [hb.cell]; rfl
  have hc2 : w.cell? ⟨y, 2, none⟩ = some (.bool false) := by rw [hb.cell]; rfl
  have hf1 := hb.frozen 1
  have HB := Lib.hid hb
  have hyl := hb.lt
  have hw : IntKind.i64.wrap ((n : Int) - (a : Int)) = (n : Int) - (a : Int) := IntWalk.i64_in _ (by omega)
  have hd : decide ((q : Int) < 0) = false := by rw [decide_eq_false_iff_not]; omega
  have hd2 : decide ((n : Int) - (a : Int) < (q : Int)) = false := by rw [decide_eq_false_iff_not]; omega
  clear hb
  go_enter Try.func62, Try.ntmps62
  go_wp2
  go_quiet (fail)
  go_wp2_with fail
  clear hw hd hd2
  have hw2 : IntKind.i64.wrap ((a : Int) + (q : Int)) = (a : Int) + (q : Int) := IntWalk.i64_in _ (by omega)
  have b1 : (0 : Int) ≤ (a : Int) := by omega
  have b2 : (a : Int) ≤ (a : Int) + (q : Int) := by omega
  have b3 : (a : Int) + (q : Int) ≤ (c : Int) := by omega
  have hinfo := Lib.hid info8
  have HS := Lib.hid hs
  clear hs
  have hq2 : ((a : Int) + (q : Int)).toNat = a + q := by omega
  cases A with
  | none =>
    have hn0 : n = 0 := by
      rcases Nat.eq_zero_or_pos n with h | h
      · exact h
      · obtain ⟨ad, e, _⟩ := HS.out.2 h; cases e
    have Hq0 : Hid (q = 0) := by show q = 0; omega
    have HSUB : Hid (∀ k, Src ((w.drewN k).alloc (.cells #[] 5)) (none) q ((xs.drop a).take q)) := fun k => Src.zero _ _ xs a q Hq0.out
    have HLEN : Hid (([] : List UInt8).length + q ≤ 140737488355328) := by show 0 + q ≤ _; omega
    have HOWN : Hid (∀ k, Own ((w.drewN k).alloc (.cells #[] 5)) w.heap.size (.slice (some ⟨w.heap.size, 0, none⟩) 0 0) []) := fun k => Own.empty (w.drewN k) w.heap.size (Nat.le_refl _)
    have HSIZE : Hid (∀ k, w.heap.size ≤ ((w.drewN k).alloc (.cells #[] 5)).heap.size) := fun k => by show w.heap.size ≤ (w.heap.push _).size; simp
    have HBEL : Hid (∀ k w', Below w.heap.size ((w.drewN k).alloc (.cells #[] 5)) w' → Below w.heap.size w w') := fun k w' h => (below_drewN k ((Below.refl _ _).alloc (Nat.le_refl _) _)).trans h
    have HD0 : Hid (∀ w', Below w.heap.size w w' → w'.cell? ⟨y, 0, none⟩ = some (.slice (none) n c)) := fun w' h => (h.cell (p := ⟨y, 0, none⟩) hyl).trans hc0
    have HD1 : Hid (∀ w', Below w.heap.size w w' → w'.cell? ⟨y, 1, none⟩ = some (.int .i64 (a : Int))) := fun w' h => (h.cell (p := ⟨y, 1, none⟩) hyl).trans hc1
    go_upto_region 4 with fail
    go_cut [5] (fun v5 wx => Own wx w.heap.size v5 ((xs.drop a).take q) ∧ Below w.heap.size w wx)
    case first =>
      go_region_held3 (fun w' => w'.cell? ⟨y, 0, none⟩ = some (.slice (none) n c) ∧ w'.cell? ⟨y, 1, none⟩ = some (.int .i64 (a : Int)))
        (go_keep)
        (first
          | (refine step_app rfl (.tmp 31) (.tmp 46) 22 rfl Try.underlying22 hinfo.out w.heap.size _ [] rfl ?_ _ q _ ((xs.drop a).take q) rfl ?_ ?_ ?_ ?_; exact HOWN.out _; exact HSUB.out _; exact HLEN.out; exact HSIZE.out _; intro v1 w1 HO1 hb1; have hbw1 := HBEL.out _ _ hb1; have hd0 := HD0.out _ hbw1; have hd1 := HD1.out _ hbw1))
      all_goals (go_wp2_with fail; go_meet; exact ⟨by have h := HO1.out; rwa [List.nil_append] at h, hbw1⟩)
    case rest =>
      obtain ⟨hown, hbw⟩ := hcut
      have hd1 : wc.cell? ⟨y, 1, none⟩ = some (.int .i64 (a : Int)) := (hbw.cell (p := ⟨y, 1, none⟩) hyl).trans hc1
      have hg1 : wc.frozen? ⟨y, 1, none⟩ = false := (hbw.frozen (p := ⟨y, 1, none⟩) hyl).trans hf1
      obtain ⟨A5, c5, rfl, _, _⟩ := hown.src
      have HO := Lib.hid hown
      clear hown hc1 hf1 hc0 hc2
      go_wp2_with fail
      go_ret
      refine ⟨_, rfl, own_setCell HO.out (p := ⟨y, 1, none⟩) hyl _, ⟨a + q, false, ?_, by omega, rfl⟩, only_setCell (p := ⟨y, 1, none⟩) (only_of_below hbw _) (.inl rfl) _⟩
      · have h := (HB.out.below hbw hyl).set_ 1 (.int .i64 ((a : Int) + (q : Int)))
        rw [set3_1] at h
        rw [Int.natCast_add]
        exact h
  | some ad =>
    have hca : c ≠ a := fun h => hne ⟨ad, rfl, h⟩
    have Hsub := Lib.hid (Src.sub (a := a) (q := q) HS.out (by omega))
    have HSUB : Hid (∀ k, Src ((w.drewN k).alloc (.cells #[] 5)) (some (ad.add a)) q ((xs.drop a).take q)) := fun k => Src.alloc (w := w.drewN k) Hsub.out _
    have HLEN : Hid (([] : List UInt8).length + q ≤ 140737488355328) := by show 0 + q ≤ _; omega
    have HOWN : Hid (∀ k, Own ((w.drewN k).alloc (.cells #[] 5)) w.heap.size (.slice (some ⟨w.heap.size, 0, none⟩) 0 0) []) := fun k => Own.empty (w.drewN k) w.heap.size (Nat.le_refl _)
    have HSIZE : Hid (∀ k, w.heap.size ≤ ((w.drewN k).alloc (.cells #[] 5)).heap.size) := fun k => by show w.heap.size ≤ (w.heap.push _).size; simp
    have HBEL : Hid (∀ k w', Below w.heap.size ((w.drewN k).alloc (.cells #[] 5)) w' → Below w.heap.size w w') := fun k w' h => (below_drewN k ((Below.refl _ _).alloc (Nat.le_refl _) _)).trans h
    have HD0 : Hid (∀ w', Below w.heap.size w w' → w'.cell? ⟨y, 0, none⟩ = some (.slice (some ad) n c)) := fun w' h => (h.cell (p := ⟨y, 0, none⟩) hyl).trans hc0
    have HD1 : Hid (∀ w', Below w.heap.size w w' → w'.cell? ⟨y, 1, none⟩ = some (.int .i64 (a : Int))) := fun w' h => (h.cell (p := ⟨y, 1, none⟩) hyl).trans hc1
    go_upto_region 4 with fail
    go_cut [5] (fun v5 wx => Own wx w.heap.size v5 ((xs.drop a).take q) ∧ Below w.heap.size w wx)
    case first =>
      go_region_held3 (fun w' => w'.cell? ⟨y, 0, none⟩ = some (.slice (some ad) n c) ∧ w'.cell? ⟨y, 1, none⟩ = some (.int .i64 (a : Int)))
        (go_keep)
        (first
          | (refine step_app rfl (.tmp 31) (.tmp 46) 22 rfl Try.underlying22 hinfo.out w.heap.size _ [] rfl ?_ _ q _ ((xs.drop a).take q) rfl ?_ ?_ ?_ ?_; exact HOWN.out _; exact HSUB.out _; exact HLEN.out; exact HSIZE.out _; intro v1 w1 HO1 hb1; have hbw1 := HBEL.out _ _ hb1; have hd0 := HD0.out _ hbw1; have hd1 := HD1.out _ hbw1))
      all_goals (go_wp2_with fail; go_meet; exact ⟨by have h := HO1.out; rwa [List.nil_append] at h, hbw1⟩)
    case rest =>
      obtain ⟨hown, hbw⟩ := hcut
      have hd1 : wc.cell? ⟨y, 1, none⟩ = some (.int .i64 (a : Int)) := (hbw.cell (p := ⟨y, 1, none⟩) hyl).trans hc1
      have hg1 : wc.frozen? ⟨y, 1, none⟩ = false := (hbw.frozen (p := ⟨y, 1, none⟩) hyl).trans hf1
      obtain ⟨A5, c5, rfl, _, _⟩ := hown.src
      have HO := Lib.hid hown
      clear hown hc1 hf1 hc0 hc2
      go_wp2_with fail
      go_ret
      refine ⟨_, rfl, own_setCell HO.out (p := ⟨y, 1, none⟩) hyl _, ⟨a + q, false, ?_, by omega, rfl⟩, only_setCell (p := ⟨y, 1, none⟩) (only_of_below hbw _) (.inl rfl) _⟩
      · have h := (HB.out.below hbw hyl).set_ 1 (.int .i64 ((a : Int) + (q : Int)))
        rw [set3_1] at h
        rw [Int.natCast_add]
        exact h

theorem rtake_any (y : Nat) (A : Option Addr) (n c : Nat) (xs : List UInt8) (st : Option (List UInt8)) (q : Int) (w : World) (hr : RR w y A n c xs st) (hn : n ≤ 100000) (hnc : n ≤ c) (hc : c ≤ 9223372036854775807) (hs : Src w A n xs) :
    Calls Try.prog 62 #[.pointer (some ⟨y, 0, none⟩), .int .i64 q] w (RTakePost w y A n c xs (takeS st q)) := by
  obtain ⟨a, off, hb, ha, rfl⟩ := hr
  cases off with
  | true => exact rtake_bad y A n c a xs q w hb ha
  | false =>
    show Calls _ _ _ _ (RTakePost w y A n c xs (takeS (some (xs.drop a)) q))
    by_cases hq : 0 ≤ q ∧ q ≤ (n : Int) - a
    · obtain ⟨k, rfl⟩ := Int.eq_ofNat_of_zero_le hq.1
      rw [takeS_in _ _ (by rw [List.length_drop, hs.1]; omega), List.drop_drop]
      by_cases hne : ∃ ad, A = some ad ∧ c = a
      · obtain ⟨ad, rfl, rfl⟩ := hne
        obtain rfl : n = c := by omega
        obtain rfl : k = 0 := by omega
        exact rtake_full y ad n xs w hb hn
      · exact rtake_in y A n c a k xs w hb ha hn hnc hc (by omega) hs hne
    · rw [takeS_out _ _ (by rw [List.length_drop, hs.1]; omega)]
      exact rtake_out y A n c a xs q w hb ha hn hq
end Go.Proofs.Ytajmdchidmamcaa.RefBe
