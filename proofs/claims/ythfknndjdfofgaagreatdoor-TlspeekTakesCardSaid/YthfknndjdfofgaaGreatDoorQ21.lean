/-
 Contracts of the document's own Reader of layer 1 (hagioscoperef01): Take, Left; what Take answers is the call's own.
-/
import Derived.Test.YthfknndjdfofgaaGreatDoorQ20
import Derived.Test.YthfknndjdfofgaaGreatDoorQ03
import Derived.Deep.QuietTactic
import Derived.BigQuiet
import Derived.Deep.RegionHeld3
import Derived.Deep.DeepCutAuto
namespace Go.Proofs.YthfknndjdfofgaaGreatDoor.RefBe
open Go.RowKit Go.Proofs.YthfknndjdfofgaaGreatDoor.Wd Go.Proofs.YthfknndjdfofgaaGreatDoor.Be

def RR (w : World) (y : Nat) (A : Option Addr) (n c : Nat) (xs : List UInt8) (st : Option (List UInt8)) : Prop :=
 ∃ (at_ : Nat) (off : Bool), Blk w y 160 #[.slice A n c, .int .i64 (at_ : Int), .bool off] ∧ at_ ≤ n ∧ st = if off then none else some (xs.drop at_)
theorem RR.blk {w : World} {y : Nat} {A : Option Addr} {n c : Nat} {xs : List UInt8} {st : Option (List UInt8)} (h : RR w y A n c xs st) : ∃ cs, Blk w y 160 cs := by
 obtain ⟨a, o, hb, _⟩ := h; exact ⟨_, hb⟩
theorem set3_1 (a b c x : Value) : (#[a, b, c] : Array Value).setIfInBounds 1 x = #[a, x, c] := by simp
theorem set3_2 (a b c x : Value) : (#[a, b, c] : Array Value).setIfInBounds 2 x = #[a, b, x] := by simp

def RTakePost (w : World) (y : Nat) (A : Option Addr) (n c : Nat) (xs : List UInt8) (p : List UInt8 × Option (List UInt8)) (e : Ending) (w' : World) : Prop :=
 ∃ v, e = .returned v ∧ Own w' w.heap.size v p.1 ∧ RR w' y A n c xs p.2 ∧ w.grownBy w' (some y)

theorem rleft_any (y : Nat) (A : Option Addr) (n c : Nat) (xs : List UInt8) (st : Option (List UInt8)) (w : World) (hr : RR w y A n c xs st) (hl : xs.length = n) (hn : n ≤ 100000) :
   Calls Tryz.prog 136 #[.pointer (some ⟨y, 0, none⟩)] w fun e w' => e = .returned (.int .i64 (leftS st : Int)) ∧ ∃ k, w' = w.drewN k := by
 obtain ⟨a, off, hb, ha, rfl⟩ := hr
 have hc0 : w.cell? ⟨y, 0, none⟩ = some (.slice A n c) := by rw [hb.cell]; rfl
 have hc1 : w.cell? ⟨y, 1, none⟩ = some (.int .i64 (a : Int)) := by rw [hb.cell]; rfl
 have hc2 : w.cell? ⟨y, 2, none⟩ = some (.bool off) := by rw [hb.cell]; rfl
 clear hb
 cases off with
 | true =>
   go_enter Tryz.func136, Tryz.ntmps136
   go_wp2
   go_ret
   exact ⟨rfl, 0, rfl⟩
 | false =>
   have Hf : Hid (leftS (some (xs.drop a)) = n - a) := by
     show (xs.drop a).length = n - a
     rw [List.length_drop, hl]
   clear hl
   have hw : IntKind.i64.wrap ((n : Int) - (a : Int)) = (n : Int) - (a : Int) := IntWalk.i64_in _ (by omega)
   go_enter Tryz.func136, Tryz.ntmps136
   go_wp2
   go_quiet (fail)
   go_wp2
   go_ret
   rw [Hf.out]
   exact ⟨congrArg (fun z => Ending.returned (.int .i64 z)) (by omega), _, rfl⟩

section
variable {P : Program} {w : World}
theorem step_app {ops : Array Oper} {o : Oper} {a : Act} {K : Act → World → Prop} {Q : Exit → Act → World → Prop} {E : Prop} (hgd : o.guard = none) (s x : Operand) (t : TypeId)
   (ho : o.op = .call { callee := .builtin .append, args := #[s, x], argTypes := #[t, t] }) (ht : P.underlying t = some (.slice 5)) (hinfo : (P.info? 5).map (fun i => (i.zero, i.size, i.bytes)) = some (some (.int .u8 0), 1, 1))
   (B : Nat) (v : Value) (xs : List UInt8) (hs : a.eval s = v) (hown : Own w B v xs) (A : Option Addr) (m c : Nat) (ys : List UInt8) (hx : a.eval x = .slice A m c) (hsrc : Src w A m ys)
   (hlen : xs.length + m ≤ 140737488355328) (hB : B ≤ w.heap.size)
   (h : ∀ v' w', Hid (Own w' B v' (xs ++ ys)) → Below B w w' → K (a.put o.dst v') w') :
   if Region.wanted o (yielded ops a.tmps) = true then Oper.wp P o a w K Q else E := by
 have hw : Region.wanted o (yielded ops a.tmps) = true := by simp [Region.wanted, hgd]
 rw [if_pos hw]
 obtain ⟨i0, hi, hz0, hz1, hz2⟩ := info_parts hinfo
 obtain ⟨v', w', hrun, h2, h3⟩ := run_app (ty := o.type) ht hi hz0 hz1 hz2 hown (c := c) hsrc hlen hB
 unfold Oper.wp execOp
 simp only [ho, resolve, invoke, builtin, Sem.run_bind, Sem.run_pure, Result.andThen_ok, List.map_toArray, List.map_cons, List.map_nil, hs, hx, hrun]
 exact h v' w' h2 h3
end

theorem below_drewN {w w' : World} {B : Nat} (k : Nat) (h : Below B (w.drewN k) w') : Below B w w' := ⟨h.os, h.tape, h.output, h.size, h.block⟩
theorem only_drewN (w : World) (k : Nat) (row : Option Nat) : w.grownBy (w.drewN k) row := ⟨rfl, rfl, rfl, Nat.le_refl _, fun _ _ _ => rfl⟩

theorem rtake_bad (y : Nat) (A : Option Addr) (n c a : Nat) (xs : List UInt8) (q : Int) (w : World) (hb : Blk w y 160 #[.slice A n c, .int .i64 (a : Int), .bool true]) (ha : a ≤ n) :
   Calls Tryz.prog 134 #[.pointer (some ⟨y, 0, none⟩), .int .i64 q] w (RTakePost w y A n c xs ([], none)) := by
 have hc2 : w.cell? ⟨y, 2, none⟩ = some (.bool true) := by rw [hb.cell]; rfl
 have hf2 := hb.frozen 2
 have HB := Lib.hid hb
 clear hb
 go_enter Tryz.func134, Tryz.ntmps134
 go_wp2
 go_quiet (fail)
 go_wp2
 go_ret
 refine ⟨_, rfl, ⟨rfl, .inl ⟨rfl, rfl⟩⟩, ⟨a, true, ?_, ha, rfl⟩, ?_⟩
 · have h := HB.out.set_ 2 (.bool true)
   rw [set3_2] at h
   exact h
 · exact only_setCell (p := ⟨y, 2, none⟩) (only_drewN w _ (some y)) (.inl rfl) (.bool true)

set_option maxHeartbeats 800000 in
theorem rtake_out (y : Nat) (A : Option Addr) (n c a : Nat) (xs : List UInt8) (q : Int) (w : World) (hb : Blk w y 160 #[.slice A n c, .int .i64 (a : Int), .bool false]) (ha : a ≤ n) (hn : n ≤ 100000) (hq : ¬ (0 ≤ q ∧ q ≤ (n : Int) - a)) :
   Calls Tryz.prog 134 #[.pointer (some ⟨y, 0, none⟩), .int .i64 q] w (RTakePost w y A n c xs ([], none)) := by
 have hc0 : w.cell? ⟨y, 0, none⟩ = some (.slice A n c) := by rw [hb.cell]; rfl
 have hc1 : w.cell? ⟨y, 1, none⟩ = some (.int .i64 (a : Int)) := by rw [hb.cell]; rfl
 have hc2 : w.cell? ⟨y, 2, none⟩ = some (.bool false) := by rw [hb.cell]; rfl
 have hf2 := hb.frozen 2
 have HB := Lib.hid hb
 have hw : IntKind.i64.wrap ((n : Int) - (a : Int)) = (n : Int) - (a : Int) := IntWalk.i64_in _ (by omega)
 clear hb
 by_cases h0 : q < 0
 · have hd : decide (q < 0) = true := by simpa using h0
   clear hq
   go_enter Tryz.func134, Tryz.ntmps134
   go_wp2
   go_quiet (fail)
   go_wp2
   go_ret
   refine ⟨_, rfl, ⟨rfl, .inl ⟨rfl, rfl⟩⟩, ⟨a, true, ?_, ha, rfl⟩, only_setCell (p := ⟨y, 2, none⟩) (only_drewN w _ (some y)) (.inl rfl) (.bool true)⟩
   have h := HB.out.set_ 2 (.bool true)
   rw [set3_2] at h
   exact h
 · have hd : decide (q < 0) = false := by simpa using h0
   have hd2 : decide ((n : Int) - (a : Int) < q) = true := by rw [decide_eq_true_iff]; omega
   clear hq
   go_enter Tryz.func134, Tryz.ntmps134
   go_wp2
   go_quiet (fail)
   go_wp2
   go_ret
   refine ⟨_, rfl, ⟨rfl, .inl ⟨rfl, rfl⟩⟩, ⟨a, true, ?_, ha, rfl⟩, only_setCell (p := ⟨y, 2, none⟩) (only_drewN w _ (some y)) (.inl rfl) (.bool true)⟩
   have h := HB.out.set_ 2 (.bool true)
   rw [set3_2] at h
   exact h

theorem Src.sub {w : World} {ad : Addr} {n a q : Nat} {xs : List UInt8} (h : Src w (some ad) n xs) (hq : a + q ≤ n) : Src w (some (ad.add a)) q ((xs.drop a).take q) := by
 refine ⟨by rw [List.length_take, List.length_drop, h.1]; omega, fun hp => ?_⟩
 obtain ⟨ad', e, hb, hc⟩ := h.2 (by omega)
 injection e with e
 subst e
 refine ⟨_, rfl, by rw [block_of_add]; exact hb, fun j c hj => ?_⟩
 rw [List.getElem?_take] at hj
 split at hj
 · rw [List.getElem?_drop] at hj
   rw [add_of_add]
   exact hc _ _ hj
 · cases hj
theorem Src.zero (w : World) (A : Option Addr) (xs : List UInt8) (a q : Nat) (h : q = 0) : Src w A q ((xs.drop a).take q) := by
 subst h; exact ⟨by simp, fun h0 => absurd h0 (by omega)⟩
theorem own_setCell {w : World} {B : Nat} {v : Value} {xs : List UInt8} (h : Own w B v xs) {p : Addr} (hp : p.block < B) (u : Value) : Own (w.setCell p u) B v xs := ownsRow_setCell_below h hp u

set_option maxHeartbeats 1600000 in
theorem rtake_full (y : Nat) (ad : Addr) (n : Nat) (xs : List UInt8) (w : World) (hb : Blk w y 160 #[.slice (some ad) n n, .int .i64 (n : Int), .bool false]) (hn : n ≤ 100000) :
   Calls Tryz.prog 134 #[.pointer (some ⟨y, 0, none⟩), .int .i64 0] w (RTakePost w y (some ad) n n xs ([], some (xs.drop n))) := by
 have hc0 : w.cell? ⟨y, 0, none⟩ = some (.slice (some ad) n n) := by rw [hb.cell]; rfl
 have hc1 : w.cell? ⟨y, 1, none⟩ = some (.int .i64 (n : Int)) := by rw [hb.cell]; rfl
 have hc2 : w.cell? ⟨y, 2, none⟩ = some (.bool false) := by rw [hb.cell]; rfl
 have hf1 := hb.frozen 1
 have HB := Lib.hid hb
 have hyl := hb.lt
 have hinfo := Lib.hid info8
 clear hb
 go_enter Tryz.func134, Tryz.ntmps134
 go_wp2
 go_quiet (fail)
 go_wp2_with fail
 have hw2 : IntKind.i64.wrap (n : Int) = (n : Int) := IntWalk.i64_in _ (by omega)
 have HSUB : Hid (∀ k, Src ((w.drewN k).alloc (.cells #[] 5)) (some ad) 0 []) := fun k => ⟨rfl, fun h => absurd h (by omega)⟩
 have HLEN : Hid (([] : List UInt8).length + 0 ≤ 140737488355328) := by show 0 + 0 ≤ _; omega
 have HOWN : Hid (∀ k, Own ((w.drewN k).alloc (.cells #[] 5)) w.heap.size (.slice (some ⟨w.heap.size, 0, none⟩) 0 0) []) := fun k => Own.empty (w.drewN k) w.heap.size (Nat.le_refl _)
 have HSIZE : Hid (∀ k, w.heap.size ≤ ((w.drewN k).alloc (.cells #[] 5)).heap.size) := fun k => by show w.heap.size ≤ (w.heap.push _).size; simp
 have HBEL : Hid (∀ k w', Below w.heap.size ((w.drewN k).alloc (.cells #[] 5)) w' → Below w.heap.size w w') := fun k w' h => (below_drewN k ((Below.refl _ _).alloc (Nat.le_refl _) _)).trans h
 have HD0 : Hid (∀ w', Below w.heap.size w w' → w'.cell? ⟨y, 0, none⟩ = some (.slice (some ad) n n)) := fun w' h => (h.cell (p := ⟨y, 0, none⟩) hyl).trans hc0
 have HD1 : Hid (∀ w', Below w.heap.size w w' → w'.cell? ⟨y, 1, none⟩ = some (.int .i64 (n : Int))) := fun w' h => (h.cell (p := ⟨y, 1, none⟩) hyl).trans hc1
 go_upto_region 4 with fail
 go_cut [5] (fun v5 wx => Own wx w.heap.size v5 [] ∧ Below w.heap.size w wx)
 case first =>
   go_region_held3 (fun w' => w'.cell? ⟨y, 0, none⟩ = some (.slice (some ad) n n) ∧ w'.cell? ⟨y, 1, none⟩ = some (.int .i64 (n : Int)))
     (go_keep)
     (first
       | (refine step_app rfl (.tmp 31) (.tmp 46) 22 rfl Tryz.underlying22 hinfo.out w.heap.size _ [] rfl ?_ _ 0 _ [] rfl ?_ ?_ ?_ ?_; exact HOWN.out _; exact HSUB.out _; exact HLEN.out; exact HSIZE.out _; intro v1 w1 HO1 hb1; have hbw1 := HBEL.out _ _ hb1; have hd0 := HD0.out _ hbw1; have hd1 := HD1.out _ hbw1))
   all_goals (go_wp2_with fail; go_meet; exact ⟨HO1.out, hbw1⟩)
 case rest =>
   obtain ⟨hown, hbw⟩ := hcut
   have hd1 : wc.cell? ⟨y, 1, none⟩ = some (.int .i64 (n : Int)) := (hbw.cell (p := ⟨y, 1, none⟩) hyl).trans hc1
   have hg1 : wc.frozen? ⟨y, 1, none⟩ = false := (hbw.frozen (p := ⟨y, 1, none⟩) hyl).trans hf1
   obtain ⟨A5, c5, rfl, _, _⟩ := hown.src
   have HO := Lib.hid hown
   clear hown hc1 hf1 hc0 hc2
   go_wp2_with fail
   go_ret
   refine ⟨_, rfl, own_setCell HO.out (p := ⟨y, 1, none⟩) hyl _, ⟨n, false, ?_, by omega, rfl⟩, only_setCell (p := ⟨y, 1, none⟩) (only_of_below hbw _) (.inl rfl) _⟩
   · have h := (HB.out.below hbw hyl).set_ 1 (.int .i64 (n : Int))
     rw [set3_1] at h
     exact h

set_option maxHeartbeats 1600000 in
theorem rtake_in (y : Nat) (A : Option Addr) (n c a q : Nat) (xs : List UInt8) (w : World) (hb : Blk w y 160 #[.slice A n c, .int .i64 (a : Int), .bool false]) (ha : a ≤ n) (hn : n ≤ 100000) (hnc : n ≤ c) (hc : c ≤ 9223372036854775807) (hq : q ≤ n - a)
   (hs : Src w A n xs) (hne : ¬ ∃ ad, A = some ad ∧ c = a) :
   Calls Tryz.prog 134 #[.pointer (some ⟨y, 0, none⟩), .int .i64 (q : Int)] w (RTakePost w y A n c xs ((xs.drop a).take q, some (xs.drop (a + q)))) := by
 have hc0 : w.cell? ⟨y, 0, none⟩ = some (.slice A n c) := by rw [hb.cell]; rfl
 have hc1 : w.cell? ⟨y, 1, none⟩ = some (.int .i64 (a : Int)) := by rw [hb.cell]; rfl
 have hc2 : w.cell? ⟨y, 2, none⟩ = some (.bool false) := by rw [hb.cell]; rfl
 have hf1 := hb.frozen 1
 have HB := Lib.hid hb
 have hyl := hb.lt
 have hw : IntKind.i64.wrap ((n : Int) - (a : Int)) = (n : Int) - (a : Int) := IntWalk.i64_in _ (by omega)
 have hd : decide ((q : Int) < 0) = false := by rw [decide_eq_false_iff_not]; omega
 have hd2 : decide ((n : Int) - (a : Int) < (q : Int)) = false := by rw [decide_eq_false_iff_not]; omega
 clear hb
 go_enter Tryz.func134, Tryz.ntmps134
 go_wp2
 go_quiet (fail)
 go_wp2_with fail
 clear hw hd hd2
 have hw2 : IntKind.i64.wrap ((a : Int) + (q : Int)) = (a : Int) + (q : Int) := IntWalk.i64_in _ (by omega)
 have b1 : (0 : Int) ≤ (a : Int) := by omega
 have b2 : (a : Int) ≤ (a : Int) + (q : Int) := by omega
 have b3 : (a : Int) + (q : Int) ≤ (c : Int) := by omega
 have hinfo := Lib.hid info8
 have HS := Lib.hid hs
 clear hs
 have hq2 : ((a : Int) + (q : Int)).toNat = a + q := by omega
 cases A with
 | none =>
   have hn0 : n = 0 := by
     rcases Nat.eq_zero_or_pos n with h | h
     · exact h
     · obtain ⟨ad, e, _⟩ := HS.out.2 h; cases e
   have Hq0 : Hid (q = 0) := by show q = 0; omega
   have HSUB : Hid (∀ k, Src ((w.drewN k).alloc (.cells #[] 5)) (none) q ((xs.drop a).take q)) := fun k => Src.zero _ _ xs a q Hq0.out
   have HLEN : Hid (([] : List UInt8).length + q ≤ 140737488355328) := by show 0 + q ≤ _; omega
   have HOWN : Hid (∀ k, Own ((w.drewN k).alloc (.cells #[] 5)) w.heap.size (.slice (some ⟨w.heap.size, 0, none⟩) 0 0) []) := fun k => Own.empty (w.drewN k) w.heap.size (Nat.le_refl _)
   have HSIZE : Hid (∀ k, w.heap.size ≤ ((w.drewN k).alloc (.cells #[] 5)).heap.size) := fun k => by show w.heap.size ≤ (w.heap.push _).size; simp
   have HBEL : Hid (∀ k w', Below w.heap.size ((w.drewN k).alloc (.cells #[] 5)) w' → Below w.heap.size w w') := fun k w' h => (below_drewN k ((Below.refl _ _).alloc (Nat.le_refl _) _)).trans h
   have HD0 : Hid (∀ w', Below w.heap.size w w' → w'.cell? ⟨y, 0, none⟩ = some (.slice (none) n c)) := fun w' h => (h.cell (p := ⟨y, 0, none⟩) hyl).trans hc0
   have HD1 : Hid (∀ w', Below w.heap.size w w' → w'.cell? ⟨y, 1, none⟩ = some (.int .i64 (a : Int))) := fun w' h => (h.cell (p := ⟨y, 1, none⟩) hyl).trans hc1
   go_upto_region 4 with fail
   go_cut [5] (fun v5 wx => Own wx w.heap.size v5 ((xs.drop a).take q) ∧ Below w.heap.size w wx)
   case first =>
     go_region_held3 (fun w' => w'.cell? ⟨y, 0, none⟩ = some (.slice (none) n c) ∧ w'.cell? ⟨y, 1, none⟩ = some (.int .i64 (a : Int)))
       (go_keep)
       (first
         | (refine step_app rfl (.tmp 31) (.tmp 46) 22 rfl Tryz.underlying22 hinfo.out w.heap.size _ [] rfl ?_ _ q _ ((xs.drop a).take q) rfl ?_ ?_ ?_ ?_; exact HOWN.out _; exact HSUB.out _; exact HLEN.out; exact HSIZE.out _; intro v1 w1 HO1 hb1; have hbw1 := HBEL.out _ _ hb1; have hd0 := HD0.out _ hbw1; have hd1 := HD1.out _ hbw1))
     all_goals (go_wp2_with fail; go_meet; exact ⟨by have h := HO1.out; rwa [List.nil_append] at h, hbw1⟩)
   case rest =>
     obtain ⟨hown, hbw⟩ := hcut
     have hd1 : wc.cell? ⟨y, 1, none⟩ = some (.int .i64 (a : Int)) := (hbw.cell (p := ⟨y, 1, none⟩) hyl).trans hc1
     have hg1 : wc.frozen? ⟨y, 1, none⟩ = false := (hbw.frozen (p := ⟨y, 1, none⟩) hyl).trans hf1
     obtain ⟨A5, c5, rfl, _, _⟩ := hown.src
     have HO := Lib.hid hown
     clear hown hc1 hf1 hc0 hc2
     go_wp2_with fail
     go_ret
     refine ⟨_, rfl, own_setCell HO.out (p := ⟨y, 1, none⟩) hyl _, ⟨a + q, false, ?_, by omega, rfl⟩, only_setCell (p := ⟨y, 1, none⟩) (only_of_below hbw _) (.inl rfl) _⟩
     · have h := (HB.out.below hbw hyl).set_ 1 (.int .i64 ((a : Int) + (q : Int)))
       rw [set3_1] at h
       rw [Int.natCast_add]
       exact h
 | some ad =>
   have hca : c ≠ a := fun h => hne ⟨ad, rfl, h⟩
   have Hsub := Lib.hid (Src.sub (a := a) (q := q) HS.out (by omega))
   have HSUB : Hid (∀ k, Src ((w.drewN k).alloc (.cells #[] 5)) (some (ad.add a)) q ((xs.drop a).take q)) := fun k => Src.alloc (w := w.drewN k) Hsub.out _
   have HLEN : Hid (([] : List UInt8).length + q ≤ 140737488355328) := by show 0 + q ≤ _; omega
   have HOWN : Hid (∀ k, Own ((w.drewN k).alloc (.cells #[] 5)) w.heap.size (.slice (some ⟨w.heap.size, 0, none⟩) 0 0) []) := fun k => Own.empty (w.drewN k) w.heap.size (Nat.le_refl _)
   have HSIZE : Hid (∀ k, w.heap.size ≤ ((w.drewN k).alloc (.cells #[] 5)).heap.size) := fun k => by show w.heap.size ≤ (w.heap.push _).size; simp
   have HBEL : Hid (∀ k w', Below w.heap.size ((w.drewN k).alloc (.cells #[] 5)) w' → Below w.heap.size w w') := fun k w' h => (below_drewN k ((Below.refl _ _).alloc (Nat.le_refl _) _)).trans h
   have HD0 : Hid (∀ w', Below w.heap.size w w' → w'.cell? ⟨y, 0, none⟩ = some (.slice (some ad) n c)) := fun w' h => (h.cell (p := ⟨y, 0, none⟩) hyl).trans hc0
   have HD1 : Hid (∀ w', Below w.heap.size w w' → w'.cell? ⟨y, 1, none⟩ = some (.int .i64 (a : Int))) := fun w' h => (h.cell (p := ⟨y, 1, none⟩) hyl).trans hc1
   go_upto_region 4 with fail
   go_cut [5] (fun v5 wx => Own wx w.heap.size v5 ((xs.drop a).take q) ∧ Below w.heap.size w wx)
   case first =>
     go_region_held3 (fun w' => w'.cell? ⟨y, 0, none⟩ = some (.slice (some ad) n c) ∧ w'.cell? ⟨y, 1, none⟩ = some (.int .i64 (a : Int)))
       (go_keep)
       (first
         | (refine step_app rfl (.tmp 31) (.tmp 46) 22 rfl Tryz.underlying22 hinfo.out w.heap.size _ [] rfl ?_ _ q _ ((xs.drop a).take q) rfl ?_ ?_ ?_ ?_; exact HOWN.out _; exact HSUB.out _; exact HLEN.out; exact HSIZE.out _; intro v1 w1 HO1 hb1; have hbw1 := HBEL.out _ _ hb1; have hd0 := HD0.out _ hbw1; have hd1 := HD1.out _ hbw1))
     all_goals (go_wp2_with fail; go_meet; exact ⟨by have h := HO1.out; rwa [List.nil_append] at h, hbw1⟩)
   case rest =>
     obtain ⟨hown, hbw⟩ := hcut
     have hd1 : wc.cell? ⟨y, 1, none⟩ = some (.int .i64 (a : Int)) := (hbw.cell (p := ⟨y, 1, none⟩) hyl).trans hc1
     have hg1 : wc.frozen? ⟨y, 1, none⟩ = false := (hbw.frozen (p := ⟨y, 1, none⟩) hyl).trans hf1
     obtain ⟨A5, c5, rfl, _, _⟩ := hown.src
     have HO := Lib.hid hown
     clear hown hc1 hf1 hc0 hc2
     go_wp2_with fail
     go_ret
     refine ⟨_, rfl, own_setCell HO.out (p := ⟨y, 1, none⟩) hyl _, ⟨a + q, false, ?_, by omega, rfl⟩, only_setCell (p := ⟨y, 1, none⟩) (only_of_below hbw _) (.inl rfl) _⟩
     · have h := (HB.out.below hbw hyl).set_ 1 (.int .i64 ((a : Int) + (q : Int)))
       rw [set3_1] at h
       rw [Int.natCast_add]
       exact h

theorem rtake_any (y : Nat) (A : Option Addr) (n c : Nat) (xs : List UInt8) (st : Option (List UInt8)) (q : Int) (w : World) (hr : RR w y A n c xs st) (hn : n ≤ 100000) (hnc : n ≤ c) (hc : c ≤ 9223372036854775807) (hs : Src w A n xs) :
   Calls Tryz.prog 134 #[.pointer (some ⟨y, 0, none⟩), .int .i64 q] w (RTakePost w y A n c xs (takeS st q)) := by
 obtain ⟨a, off, hb, ha, rfl⟩ := hr
 cases off with
 | true => exact rtake_bad y A n c a xs q w hb ha
 | false =>
   show Calls _ _ _ _ (RTakePost w y A n c xs (takeS (some (xs.drop a)) q))
   by_cases hq : 0 ≤ q ∧ q ≤ (n : Int) - a
   · obtain ⟨k, rfl⟩ := Int.eq_ofNat_of_zero_le hq.1
     rw [takeS_in _ _ (by rw [List.length_drop, hs.1]; omega), List.drop_drop]
     by_cases hne : ∃ ad, A = some ad ∧ c = a
     · obtain ⟨ad, rfl, rfl⟩ := hne
       obtain rfl : n = c := by omega
       obtain rfl : k = 0 := by omega
       exact rtake_full y ad n xs w hb hn
     · exact rtake_in y A n c a k xs w hb ha hn hnc hc (by omega) hs hne
   · rw [takeS_out _ _ (by rw [List.length_drop, hs.1]; omega)]
     exact rtake_out y A n c a xs q w hb ha hn hq
end Go.Proofs.YthfknndjdfofgaaGreatDoor.RefBe

/-
 Contracts of the document's own Reader of layer 1 (hagioscoperef01): Num, Vec.
-/
namespace Go.Proofs.YthfknndjdfofgaaGreatDoor.RefBe
open Go.RowKit Go.Proofs.YthfknndjdfofgaaGreatDoor.Wd Go.Proofs.YthfknndjdfofgaaGreatDoor.Be

def Far (A : Option Addr) (n y : Nat) : Prop := 0 < n → ∀ ad, A = some ad → ad.block ≠ y
theorem Src.grown_far {w w' : World} {A : Option Addr} {n y : Nat} {xs : List UInt8} (h : Src w A n xs) (hf : Far A n y) (hg : w.grownBy w' (some y)) : Src w' A n xs :=
 ⟨h.1, fun hn => by
   obtain ⟨ad, e, hlt, hc⟩ := h.2 hn
   refine ⟨ad, e, Nat.lt_of_lt_of_le hlt hg.size, fun j c hj => ?_⟩
   rw [World.cell?_of_block (w := w) (hg.block (ad.add j).block (by rw [block_of_add]; exact hlt) (by rw [block_of_add]; have := hf hn ad e; simp [this]))]
   exact hc j c hj⟩

def RNumPost (w : World) (y : Nat) (A : Option Addr) (n c : Nat) (xs : List UInt8) (p : Nat × Option (List UInt8)) (e : Ending) (w' : World) : Prop :=
 e = .returned (.int .i64 (p.1 : Int)) ∧ RR w' y A n c xs p.2 ∧ w.grownBy w' (some y)

set_option maxHeartbeats 800000 in
theorem rnum_any (y : Nat) (A : Option Addr) (n c : Nat) (xs : List UInt8) (st : Option (List UInt8)) (size : Int) (w : World) (hr : RR w y A n c xs st) (hn : n ≤ 100000) (hnc : n ≤ c) (hc : c ≤ 9223372036854775807) (hs : Src w A n xs) :
   Calls Tryz.prog 133 #[.pointer (some ⟨y, 0, none⟩), .int .i64 size] w (RNumPost w y A n c xs (numS st size)) := by
 have HR := Lib.hid hr
 have HS := Lib.hid hs
 clear hr hs
 have hcb := clampI_bd size
 go_enter Tryz.func133, Tryz.ntmps133
 go_wp2_with fail
 refine (rclamp_any _ _).mono ?_
 rintro e w1 ⟨rfl, rfl⟩
 go_wp2_with fail
 refine (rtake_any y A n c xs st _ w HR.out hn hnc hc HS.out).mono ?_
 rintro e w1 ⟨v, rfl, hown, hrr, hgr⟩
 obtain ⟨A', c', rfl, _, hsrc⟩ := hown.src
 have hlen := takeS_len st (clampI size) (by omega)
 have Hfin : Hid (numS st size = (natOf (takeS st (clampI size)).1, (takeS st (clampI size)).2)) := rfl
 generalize takeS st (clampI size) = p at *
 obtain ⟨zs, st'⟩ := p
 simp only at hrr hlen hsrc Hfin
 have hl4 : zs.length ≤ 4 := by omega
 have HRR := Lib.hid hrr
 have HZ := Lib.hid hsrc
 clear hrr hsrc hlen hcb
 go_wp2_with fail
 go_loop [6, 7] (fun m i => ∃ k : Nat, k ≤ zs.length ∧ i = .int .i64 k ∧ m = .int .i64 (natOf (zs.take k) : Int)) (fun _ i => zs.length - (intOf i).toNat)
 case atStart => exact ⟨0, Nat.zero_le _, rfl, rfl⟩
 case round =>
   obtain ⟨k, hk, rfl, rfl⟩ := hrel
   by_cases hlt : k < zs.length
   · obtain ⟨ad, rfl, _, hcc⟩ := HZ.out.2 (by omega)
     have hcell : w1.cell? (ad.add k) = some (.int .u8 (zs[k].toNat : Int)) := hcc k _ (List.getElem?_eq_getElem hlt)
     have hb : zs[k].toNat < 256 := zs[k].toNat_lt
     have hnl := natOf_lt (zs.take k)
     have htl : (zs.take k).length = k := by rw [List.length_take]; omega
     have hn3 : natOf (zs.take k) < 16777216 := by
       rw [htl] at hnl
       exact Nat.lt_of_lt_of_le hnl (Nat.pow_le_pow_right (n := 256) (by omega) (by omega : k ≤ 3))
     clear hnl htl hcc
     have hsn : natOf (zs.take (k + 1)) = natOf (zs.take k) * 256 + zs[k].toNat := by
       rw [List.take_add_one, List.getElem?_eq_getElem hlt]; exact natOf_snoc _ _
     have HSN := Lib.hid hsn
     clear hsn
     generalize natOf (zs.take k) = a at *
     generalize zs[k].toNat = b at *
     go_wp2
     go_round
     case rel => exact ⟨k + 1, by omega, by go_num, by rw [HSN.out]; go_num⟩
     case measure => simp [intOf]; omega
   · obtain rfl : k = zs.length := by omega
     go_wp2
     go_ret
     rw [Hfin.out]
     exact ⟨rfl, HRR.out, hgr⟩

set_option maxHeartbeats 800000 in
theorem rrvec_any (y : Nat) (A : Option Addr) (n c : Nat) (xs : List UInt8) (st : Option (List UInt8)) (size : Int) (w : World) (hr : RR w y A n c xs st) (hn : n ≤ 100000) (hnc : n ≤ c) (hc : c ≤ 9223372036854775807) (hs : Src w A n xs) (hf : Far A n y) :
   Calls Tryz.prog 135 #[.pointer (some ⟨y, 0, none⟩), .int .i64 size] w (RTakePost w y A n c xs (vecS st size)) := by
 have HR := Lib.hid hr
 have HS := Lib.hid hs
 have HF := Lib.hid hf
 clear hr hs hf
 go_enter Tryz.func135, Tryz.ntmps135
 go_wp2_with fail
 refine (rnum_any y A n c xs st size w HR.out hn hnc hc HS.out).mono ?_
 rintro e w1 ⟨rfl, hrr, hgr⟩
 have Hv : Hid (vecS st size = takeS (numS st size).2 ((numS st size).1 : Int)) := rfl
 generalize numS st size = p at *
 obtain ⟨m, st'⟩ := p
 simp only at hrr Hv
 have HRR := Lib.hid hrr
 have HS1 := Lib.hid (Src.grown_far HS.out HF.out hgr)
 obtain ⟨a, off, hb, _, rfl⟩ := hrr
 have hc2 : w1.cell? ⟨y, 2, none⟩ = some (.bool off) := by rw [hb.cell]; rfl
 clear hb
 cases off with
 | true =>
   go_wp2_with fail
   go_ret
   rw [Hv.out]
   exact ⟨_, rfl, ⟨rfl, .inl ⟨rfl, rfl⟩⟩, HRR.out, hgr⟩
 | false =>
   go_wp2_with fail
   refine (rtake_any y A n c xs _ _ w1 HRR.out hn hnc hc HS1.out).mono ?_
   rintro e w2 ⟨v, rfl, hown, hrr2, hgr2⟩
   have HA := Lib.hid (Own.lower hown hgr.size)
   obtain ⟨A', c', rfl, _, _⟩ := hown.src
   have HB := Lib.hid hrr2
   clear hown hrr2
   go_wp2_with fail
   go_ret
   rw [Hv.out]
   exact ⟨_, rfl, HA.out, HB.out, only_trans hgr hgr2⟩
end Go.Proofs.YthfknndjdfofgaaGreatDoor.RefBe
