/-
 Contracts of the document's own answers of layer 1 (hagioscoperef01): clamp, Put, Vec.
-/
import Derived.Test.YthfknndjdfofgaaGreatDoorR02
import Derived.Test.YthfknndjdfofgaaGreatDoorR03
import Derived.Laws.BitsAllLaws
import Derived.Deep.QuietTactic
import Derived.BigQuiet
import Derived.Deep.RegionHeld3
import Derived.Deep.DeepCutAuto
import Derived.Test.YthfknndjdfofgaaGreatDoorR18
namespace Go.Proofs.YthfknndjdfofgaaGreatDoor.RefBe
open Go.RowKit Go.Proofs.YthfknndjdfofgaaGreatDoor.Wd Go.Proofs.YthfknndjdfofgaaGreatDoor.Be

theorem rclamp_any (n : Int) (w : World) : Calls Tryz.prog 99 #[.int .i64 n] w fun e w' => e = .returned (.int .i64 (clampI n)) ∧ w = w' := by
 by_cases h1 : n < 1
 · have e : clampI n = 1 := by unfold clampI; rw [if_pos h1]
   rw [e]
   clear e
   go_enter Tryz.func99, Tryz.ntmps99
   go_wp2
   go_ret
   exact ⟨rfl, rfl⟩
 · by_cases h4 : 4 < n
   · have e : clampI n = 4 := by unfold clampI; rw [if_neg h1, if_pos h4]
     rw [e]
     clear e
     go_enter Tryz.func99, Tryz.ntmps99
     go_wp2
     go_ret
     exact ⟨rfl, rfl⟩
   · obtain rfl | rfl | rfl | rfl : n = 1 ∨ n = 2 ∨ n = 3 ∨ n = 4 := by omega
     all_goals
       go_enter Tryz.func99, Tryz.ntmps99
       go_wp2
       go_ret
       exact ⟨rfl, rfl⟩

theorem and255 (x : Nat) (hx : x < 18446744073709551616) : bits .and .u64 (x : Int) 255 % 256 = ((x % 256 : Nat) : Int) := by
 have h : bits .and .u64 (x : Int) ((255 : Nat) : Int) = ((x &&& 255 : Nat) : Int) := by
   show IntKind.u64.wrap ((BitVec.ofInt 64 (x : Int) &&& BitVec.ofInt 64 ((255 : Nat) : Int)).toNat : Int) = _
   rw [BitVec.toNat_and, BitVec.ofInt_natCast, BitVec.ofInt_natCast, BitVec.toNat_ofNat, BitVec.toNat_ofNat, Nat.mod_eq_of_lt (by omega : x < 2 ^ 64), Nat.mod_eq_of_lt (by omega : 255 < 2 ^ 64)]
   have : x &&& 255 ≤ 255 := Nat.and_le_right
   exact IntWalk.u64_in _ (by omega)
 have h2 : x &&& 255 = x % 256 := Nat.and_two_pow_sub_one_eq_mod x 8
 rw [show ((255 : Nat) : Int) = 255 from rfl] at h
 rw [h, h2]
 omega
theorem byteAt (m : Int) (d : Nat) (x : Int) (hx : x = IntKind.u64.wrap m / (d : Int)) (hd : d = 1 ∨ d = 256 ∨ d = 65536 ∨ d = 16777216) : bits .and .u64 x 255 % 256 = (((Go.Proofs.YthfknndjdfofgaaGreatDoor.Be.byteOf (m / d)).toNat : Nat) : Int) := by
 rw [IntKind.wrap_u64] at hx
 have h0 : 0 ≤ x ∧ x < 18446744073709551616 := by
   obtain rfl | rfl | rfl | rfl := hd <;> omega
 obtain ⟨k, rfl⟩ := Int.eq_ofNat_of_zero_le h0.1
 rw [and255 k (by omega)]
 unfold Go.Proofs.YthfknndjdfofgaaGreatDoor.Be.byteOf
 simp only [UInt8.toNat_ofNat']
 obtain rfl | rfl | rfl | rfl := hd <;> omega
theorem one_src (w : World) (X : Int) (c : UInt8) (h : X = (c.toNat : Int)) : Src (w.alloc (.cells #[.int .u8 X] 5)) (some ⟨w.heap.size, 0, none⟩) 1 [c] := by
 subst h
 exact Src.marked w _ _ _ [c] rfl
theorem take_next (m : Int) (k i : Nat) (h : i + 1 ≤ k) : (bytesOf m k).take (k - (i + 1)) ++ [Go.Proofs.YthfknndjdfofgaaGreatDoor.Be.byteOf (m / 256 ^ i)] = (bytesOf m k).take (k - i) := by
 have hj : k - (i + 1) < (bytesOf m k).length := by rw [bytesOf_length]; omega
 have e : k - i = k - (i + 1) + 1 := by omega
 rw [e, List.take_add_one, List.getElem?_eq_getElem hj]
 congr 1
 have key : ∀ (q : Nat), q + i + 1 ≤ k → (bytesOf m (q + i + 1))[q]? = some (Go.Proofs.YthfknndjdfofgaaGreatDoor.Be.byteOf (m / 256 ^ i)) := by
   intro q _
   have : ∀ (q : Nat), (bytesOf m (q + i + 1))[q]? = some (Go.Proofs.YthfknndjdfofgaaGreatDoor.Be.byteOf (m / 256 ^ i)) := by
     intro q
     induction q with
     | zero => rw [Nat.zero_add, bytesOf_cons]; rfl
     | succ q ih => rw [show q + 1 + i + 1 = (q + i + 1) + 1 from by omega, bytesOf_cons, List.getElem?_cons_succ]; exact ih
   exact this q
 have hk := key (k - (i + 1)) (by omega)
 rw [show k - (i + 1) + i + 1 = k from by omega, List.getElem?_eq_getElem hj] at hk
 injection hk with hk
 rw [hk]
 rfl

set_option maxHeartbeats 1000000 in
theorem rput_any (A : Option Addr) (n c k : Nat) (m size : Int) (xs : List UInt8) (w : World) (hs : Src w A n xs) (hn : n ≤ 100000) (hk : clampI size = k) :
   Calls Tryz.prog 100 #[.slice A n c, .int .i64 m, .int .i64 size] w fun e w' => ∃ v, e = .returned v ∧ Own w' w.heap.size v (xs ++ bytesOf m k) ∧ Below w.heap.size w w' := by
 have hbd := clampI_bd size
 have hk1 : 1 ≤ k ∧ k ≤ 4 := by omega
 have Hk := Lib.hid hk
 clear hk hbd
 obtain ⟨hk1, hk4⟩ := hk1
 have hown0 := Lib.hid (Own.empty w w.heap.size (Nat.le_refl _))
 have hs0 := Lib.hid (hs.alloc (.cells #[] 5))
 have hinfo := Lib.hid info8
 have hl := Lib.hid hs.1
 clear hs
 go_enter Tryz.func100, Tryz.ntmps100
 go_wp2_with (at_builtin; refine wpList_app rfl (.tmp 9) (.tmp 10) 22 rfl Tryz.underlying22 hinfo.out w.heap.size _ [] rfl hown0.out A n c xs rfl hs0.out (by simp; omega) (by simp) ?_; intro v1 w1 HO1 hb1)
 refine (rclamp_any _ _).mono ?_
 rintro e w2 ⟨rfl, rfl⟩
 rw [Hk.out]
 have hbw1 : Below w.heap.size w w1 := ((Below.refl _ _).alloc (Nat.le_refl _) _).trans hb1
 clear hb1 hown0 hs0
 rw [List.nil_append] at HO1
 go_wp2_with fail
 go_loopw [7, 8] (fun v kv wr => ∃ i : Nat, i ≤ k ∧ kv = .int .i64 ((i : Int) - 1) ∧ Hid (Own wr w.heap.size v (xs ++ (bytesOf m k).take (k - i))) ∧ Below w.heap.size w wr) (fun _ kv _ => (intOf kv + 1).toNat)
 case atStart => exact ⟨k, Nat.le_refl _, rfl, by rw [Nat.sub_self, List.take_zero, List.append_nil]; exact HO1, hbw1⟩
 case round =>
   clear hbw1 HO1
   rename_i u7 u8
   obtain ⟨i, hi, rfl, HO, hbw⟩ := hrel
   by_cases h0 : i = 0
   · subst h0
     go_wp2_with fail
     go_ret
     refine ⟨_, rfl, ?_, hbw⟩
     have h := HO.out
     rw [Nat.sub_zero, List.take_of_length_le (by rw [bytesOf_length]; omega)] at h
     exact h
   · have Hlen : Hid ((xs ++ (bytesOf m k).take (k - i)).length + 1 ≤ 140737488355328) := by
       show _ ≤ _
       rw [List.length_append, List.length_take, bytesOf_length, hl.out]
       omega
     obtain rfl | rfl | rfl | rfl : i = 1 ∨ i = 2 ∨ i = 3 ∨ i = 4 := by omega
     · have HN := Lib.hid (take_next m k 0 (by omega))
       have HOa := Lib.hid (HO.out.alloc (.cells #[.int .u8 (bits .and .u64 (IntKind.u64.wrap m) 255 % 256)] 5))
       have HSa := Lib.hid (one_src wr (bits .and .u64 (IntKind.u64.wrap m) 255 % 256) _ (byteAt m 1 _ (by omega) (by omega)))
       go_wp2_with (at_builtin; refine wpList_app rfl (.tmp 19) (.tmp 28) 22 rfl Tryz.underlying22 hinfo.out w.heap.size _ _ rfl HOa.out _ 1 1 _ rfl HSa.out Hlen.out (by have := hbw.size; simp; omega) ?_; intro v2 w2 HO2 hb2)
       have hbw2 : Below w.heap.size w w2 := (hbw.alloc hbw.size _).trans hb2
       go_wp2_with fail
       go_roundw
       case rel =>
         refine ⟨0, by omega, by go_num, ?_, hbw2⟩
         have h := HO2.out
         rw [List.append_assoc] at h
         rw [← HN.out]
         exact h
       case measure => simp [intOf]
     · have HN := Lib.hid (take_next m k 1 (by omega))
       have HOa := Lib.hid (HO.out.alloc (.cells #[.int .u8 (bits .and .u64 (IntKind.u64.wrap m / 256) 255 % 256)] 5))
       have HSa := Lib.hid (one_src wr (bits .and .u64 (IntKind.u64.wrap m / 256) 255 % 256) _ (byteAt m 256 _ (by rfl) (by omega)))
       go_wp2_with (at_builtin; refine wpList_app rfl (.tmp 19) (.tmp 28) 22 rfl Tryz.underlying22 hinfo.out w.heap.size _ _ rfl HOa.out _ 1 1 _ rfl HSa.out Hlen.out (by have := hbw.size; simp; omega) ?_; intro v2 w2 HO2 hb2)
       have hbw2 : Below w.heap.size w w2 := (hbw.alloc hbw.size _).trans hb2
       go_wp2_with fail
       go_roundw
       case rel =>
         refine ⟨1, by omega, by go_num, ?_, hbw2⟩
         have h := HO2.out
         rw [List.append_assoc] at h
         rw [← HN.out]
         exact h
       case measure => simp [intOf]
     · have HN := Lib.hid (take_next m k 2 (by omega))
       have HOa := Lib.hid (HO.out.alloc (.cells #[.int .u8 (bits .and .u64 (IntKind.u64.wrap m / 65536) 255 % 256)] 5))
       have HSa := Lib.hid (one_src wr (bits .and .u64 (IntKind.u64.wrap m / 65536) 255 % 256) _ (byteAt m 65536 _ (by rfl) (by omega)))
       go_wp2_with (at_builtin; refine wpList_app rfl (.tmp 19) (.tmp 28) 22 rfl Tryz.underlying22 hinfo.out w.heap.size _ _ rfl HOa.out _ 1 1 _ rfl HSa.out Hlen.out (by have := hbw.size; simp; omega) ?_; intro v2 w2 HO2 hb2)
       have hbw2 : Below w.heap.size w w2 := (hbw.alloc hbw.size _).trans hb2
       go_wp2_with fail
       go_roundw
       case rel =>
         refine ⟨2, by omega, by go_num, ?_, hbw2⟩
         have h := HO2.out
         rw [List.append_assoc] at h
         rw [← HN.out]
         exact h
       case measure => simp [intOf]
     · have HN := Lib.hid (take_next m k 3 (by omega))
       have HOa := Lib.hid (HO.out.alloc (.cells #[.int .u8 (bits .and .u64 (IntKind.u64.wrap m / 16777216) 255 % 256)] 5))
       have HSa := Lib.hid (one_src wr (bits .and .u64 (IntKind.u64.wrap m / 16777216) 255 % 256) _ (byteAt m 16777216 _ (by rfl) (by omega)))
       go_wp2_with (at_builtin; refine wpList_app rfl (.tmp 19) (.tmp 28) 22 rfl Tryz.underlying22 hinfo.out w.heap.size _ _ rfl HOa.out _ 1 1 _ rfl HSa.out Hlen.out (by have := hbw.size; simp; omega) ?_; intro v2 w2 HO2 hb2)
       have hbw2 : Below w.heap.size w w2 := (hbw.alloc hbw.size _).trans hb2
       go_wp2_with fail
       go_roundw
       case rel =>
         refine ⟨3, by omega, by go_num, ?_, hbw2⟩
         have h := HO2.out
         rw [List.append_assoc] at h
         rw [← HN.out]
         exact h
       case measure => simp [intOf]
end Go.Proofs.YthfknndjdfofgaaGreatDoor.RefBe

/-
 Contracts of the document's own Reader of layer 1 (hagioscoperef01): Take, Left; what Take answers is the call's own.
-/
namespace Go.Proofs.YthfknndjdfofgaaGreatDoor.RefBe
open Go.RowKit Go.Proofs.YthfknndjdfofgaaGreatDoor.Wd Go.Proofs.YthfknndjdfofgaaGreatDoor.Be

def RR (w : World) (y : Nat) (A : Option Addr) (n c : Nat) (xs : List UInt8) (st : Option (List UInt8)) : Prop :=
 ∃ (at_ : Nat) (off : Bool), Blk w y 160 #[.slice A n c, .int .i64 (at_ : Int), .bool off] ∧ at_ ≤ n ∧ st = if off then none else some (xs.drop at_)
theorem RR.blk {w : World} {y : Nat} {A : Option Addr} {n c : Nat} {xs : List UInt8} {st : Option (List UInt8)} (h : RR w y A n c xs st) : ∃ cs, Blk w y 160 cs := by
 obtain ⟨a, o, hb, _⟩ := h; exact ⟨_, hb⟩
theorem set3_1 (a b c x : Value) : (#[a, b, c] : Array Value).setIfInBounds 1 x = #[a, x, c] := by simp
theorem set3_2 (a b c x : Value) : (#[a, b, c] : Array Value).setIfInBounds 2 x = #[a, b, x] := by simp

def RTakePost (w : World) (y : Nat) (A : Option Addr) (n c : Nat) (xs : List UInt8) (p : List UInt8 × Option (List UInt8)) (e : Ending) (w' : World) : Prop :=
 ∃ v, e = .returned v ∧ Own w' w.heap.size v p.1 ∧ RR w' y A n c xs p.2 ∧ w.grownBy w' (some y)

theorem rleft_any (y : Nat) (A : Option Addr) (n c : Nat) (xs : List UInt8) (st : Option (List UInt8)) (w : World) (hr : RR w y A n c xs st) (hl : xs.length = n) (hn : n ≤ 100000) :
   Calls Tryz.prog 136 #[.pointer (some ⟨y, 0, none⟩)] w fun e w' => e = .returned (.int .i64 (leftS st : Int)) ∧ ∃ k, w' = w.drewN k := by
 obtain ⟨a, off, hb, ha, rfl⟩ := hr
 have hc0 : w.cell? ⟨y, 0, none⟩ = some (.slice A n c) := by rw [hb.cell]; rfl
 have hc1 : w.cell? ⟨y, 1, none⟩ = some (.int .i64 (a : Int)) := by rw [hb.cell]; rfl
 have hc2 : w.cell? ⟨y, 2, none⟩ = some (.bool off) := by rw [hb.cell]; rfl
 clear hb
 cases off with
 | true =>
   go_enter Tryz.func136, Tryz.ntmps136
   go_wp2
   go_ret
   exact ⟨rfl, 0, rfl⟩
 | false =>
   have Hf : Hid (leftS (some (xs.drop a)) = n - a) := by
     show (xs.drop a).length = n - a
     rw [List.length_drop, hl]
   clear hl
   have hw : IntKind.i64.wrap ((n : Int) - (a : Int)) = (n : Int) - (a : Int) := IntWalk.i64_in _ (by omega)
   go_enter Tryz.func136, Tryz.ntmps136
   go_wp2
   go_quiet (fail)
   go_wp2
   go_ret
   rw [Hf.out]
   exact ⟨congrArg (fun z => Ending.returned (.int .i64 z)) (by omega), _, rfl⟩

section
variable {P : Program} {w : World}
theorem step_app {ops : Array Oper} {o : Oper} {a : Act} {K : Act → World → Prop} {Q : Exit → Act → World → Prop} {E : Prop} (hgd : o.guard = none) (s x : Operand) (t : TypeId)
   (ho : o.op = .call { callee := .builtin .append, args := #[s, x], argTypes := #[t, t] }) (ht : P.underlying t = some (.slice 5)) (hinfo : (P.info? 5).map (fun i => (i.zero, i.size, i.bytes)) = some (some (.int .u8 0), 1, 1))
   (B : Nat) (v : Value) (xs : List UInt8) (hs : a.eval s = v) (hown : Own w B v xs) (A : Option Addr) (m c : Nat) (ys : List UInt8) (hx : a.eval x = .slice A m c) (hsrc : Src w A m ys)
   (hlen : xs.length + m ≤ 140737488355328) (hB : B ≤ w.heap.size)
   (h : ∀ v' w', Hid (Own w' B v' (xs ++ ys)) → Below B w w' → K (a.put o.dst v') w') :
   if Region.wanted o (yielded ops a.tmps) = true then Oper.wp P o a w K Q else E := by
 have hw : Region.wanted o (yielded ops a.tmps) = true := by simp [Region.wanted, hgd]
 rw [if_pos hw]
 obtain ⟨i0, hi, hz0, hz1, hz2⟩ := info_parts hinfo
 obtain ⟨v', w', hrun, h2, h3⟩ := run_app (ty := o.type) ht hi hz0 hz1 hz2 hown (c := c) hsrc hlen hB
 unfold Oper.wp execOp
 simp only [ho, resolve, invoke, builtin, Sem.run_bind, Sem.run_pure, Result.andThen_ok, List.map_toArray, List.map_cons, List.map_nil, hs, hx, hrun]
 exact h v' w' h2 h3
end

theorem below_drewN {w w' : World} {B : Nat} (k : Nat) (h : Below B (w.drewN k) w') : Below B w w' := ⟨h.os, h.tape, h.output, h.size, h.block⟩
theorem only_drewN (w : World) (k : Nat) (row : Option Nat) : w.grownBy (w.drewN k) row := ⟨rfl, rfl, rfl, Nat.le_refl _, fun _ _ _ => rfl⟩

theorem rtake_bad (y : Nat) (A : Option Addr) (n c a : Nat) (xs : List UInt8) (q : Int) (w : World) (hb : Blk w y 160 #[.slice A n c, .int .i64 (a : Int), .bool true]) (ha : a ≤ n) :
   Calls Tryz.prog 134 #[.pointer (some ⟨y, 0, none⟩), .int .i64 q] w (RTakePost w y A n c xs ([], none)) := by
 have hc2 : w.cell? ⟨y, 2, none⟩ = some (.bool true) := by rw [hb.cell]; rfl
 have hf2 := hb.frozen 2
 have HB := Lib.hid hb
 clear hb
 go_enter Tryz.func134, Tryz.ntmps134
 go_wp2
 go_quiet (fail)
 go_wp2
 go_ret
 refine ⟨_, rfl, ⟨rfl, .inl ⟨rfl, rfl⟩⟩, ⟨a, true, ?_, ha, rfl⟩, ?_⟩
 · have h := HB.out.set_ 2 (.bool true)
   rw [set3_2] at h
   exact h
 · exact only_setCell (p := ⟨y, 2, none⟩) (only_drewN w _ (some y)) (.inl rfl) (.bool true)

set_option maxHeartbeats 800000 in
theorem rtake_out (y : Nat) (A : Option Addr) (n c a : Nat) (xs : List UInt8) (q : Int) (w : World) (hb : Blk w y 160 #[.slice A n c, .int .i64 (a : Int), .bool false]) (ha : a ≤ n) (hn : n ≤ 100000) (hq : ¬ (0 ≤ q ∧ q ≤ (n : Int) - a)) :
   Calls Tryz.prog 134 #[.pointer (some ⟨y, 0, none⟩), .int .i64 q] w (RTakePost w y A n c xs ([], none)) := by
 have hc0 : w.cell? ⟨y, 0, none⟩ = some (.slice A n c) := by rw [hb.cell]; rfl
 have hc1 : w.cell? ⟨y, 1, none⟩ = some (.int .i64 (a : Int)) := by rw [hb.cell]; rfl
 have hc2 : w.cell? ⟨y, 2, none⟩ = some (.bool false) := by rw [hb.cell]; rfl
 have hf2 := hb.frozen 2
 have HB := Lib.hid hb
 have hw : IntKind.i64.wrap ((n : Int) - (a : Int)) = (n : Int) - (a : Int) := IntWalk.i64_in _ (by omega)
 clear hb
 by_cases h0 : q < 0
 · have hd : decide (q < 0) = true := by simpa using h0
   clear hq
   go_enter Tryz.func134, Tryz.ntmps134
   go_wp2
   go_quiet (fail)
   go_wp2
   go_ret
   refine ⟨_, rfl, ⟨rfl, .inl ⟨rfl, rfl⟩⟩, ⟨a, true, ?_, ha, rfl⟩, only_setCell (p := ⟨y, 2, none⟩) (only_drewN w _ (some y)) (.inl rfl) (.bool true)⟩
   have h := HB.out.set_ 2 (.bool true)
   rw [set3_2] at h
   exact h
 · have hd : decide (q < 0) = false := by simpa using h0
   have hd2 : decide ((n : Int) - (a : Int) < q) = true := by rw [decide_eq_true_iff]; omega
   clear hq
   go_enter Tryz.func134, Tryz.ntmps134
   go_wp2
   go_quiet (fail)
   go_wp2
   go_ret
   refine ⟨_, rfl, ⟨rfl, .inl ⟨rfl, rfl⟩⟩, ⟨a, true, ?_, ha, rfl⟩, only_setCell (p := ⟨y, 2, none⟩) (only_drewN w _ (some y)) (.inl rfl) (.bool true)⟩
   have h := HB.out.set_ 2 (.bool true)
   rw [set3_2] at h
   exact h

theorem Src.sub {w : World} {ad : Addr} {n a q : Nat} {xs : List UInt8} (h : Src w (some ad) n xs) (hq : a + q ≤ n) : Src w (some (ad.add a)) q ((xs.drop a).take q) := by
 refine ⟨by rw [List.length_take, List.length_drop, h.1]; omega, fun hp => ?_⟩
 obtain ⟨ad', e, hb, hc⟩ := h.2 (by omega)
 injection e with e
 subst e
 refine ⟨_, rfl, by rw [block_of_add]; exact hb, fun j c hj => ?_⟩
 rw [List.getElem?_take] at hj
 split at hj
 · rw [List.getElem?_drop] at hj
   rw [add_of_add]
   exact hc _ _ hj
 · cases hj
theorem Src.zero (w : World) (A : Option Addr) (xs : List UInt8) (a q : Nat) (h : q = 0) : Src w A q ((xs.drop a).take q) := by
 subst h; exact ⟨by simp, fun h0 => absurd h0 (by omega)⟩
theorem own_setCell {w : World} {B : Nat} {v : Value} {xs : List UInt8} (h : Own w B v xs) {p : Addr} (hp : p.block < B) (u : Value) : Own (w.setCell p u) B v xs := ownsRow_setCell_below h hp u

set_option maxHeartbeats 1600000 in
theorem rtake_full (y : Nat) (ad : Addr) (n : Nat) (xs : List UInt8) (w : World) (hb : Blk w y 160 #[.slice (some ad) n n, .int .i64 (n : Int), .bool false]) (hn : n ≤ 100000) :
   Calls Tryz.prog 134 #[.pointer (some ⟨y, 0, none⟩), .int .i64 0] w (RTakePost w y (some ad) n n xs ([], some (xs.drop n))) := by
 have hc0 : w.cell? ⟨y, 0, none⟩ = some (.slice (some ad) n n) := by rw [hb.cell]; rfl
 have hc1 : w.cell? ⟨y, 1, none⟩ = some (.int .i64 (n : Int)) := by rw [hb.cell]; rfl
 have hc2 : w.cell? ⟨y, 2, none⟩ = some (.bool false) := by rw [hb.cell]; rfl
 have hf1 := hb.frozen 1
 have HB := Lib.hid hb
 have hyl := hb.lt
 have hinfo := Lib.hid info8
 clear hb
 go_enter Tryz.func134, Tryz.ntmps134
 go_wp2
 go_quiet (fail)
 go_wp2_with fail
 have hw2 : IntKind.i64.wrap (n : Int) = (n : Int) := IntWalk.i64_in _ (by omega)
 have HSUB : Hid (∀ k, Src ((w.drewN k).alloc (.cells #[] 5)) (some ad) 0 []) := fun k => ⟨rfl, fun h => absurd h (by omega)⟩
 have HLEN : Hid (([] : List UInt8).length + 0 ≤ 140737488355328) := by show 0 + 0 ≤ _; omega
 have HOWN : Hid (∀ k, Own ((w.drewN k).alloc (.cells #[] 5)) w.heap.size (.slice (some ⟨w.heap.size, 0, none⟩) 0 0) []) := fun k => Own.empty (w.drewN k) w.heap.size (Nat.le_refl _)
 have HSIZE : Hid (∀ k, w.heap.size ≤ ((w.drewN k).alloc (.cells #[] 5)).heap.size) := fun k => by show w.heap.size ≤ (w.heap.push _).size; simp
 have HBEL : Hid (∀ k w', Below w.heap.size ((w.drewN k).alloc (.cells #[] 5)) w' → Below w.heap.size w w') := fun k w' h => (below_drewN k ((Below.refl _ _).alloc (Nat.le_refl _) _)).trans h
 have HD0 : Hid (∀ w', Below w.heap.size w w' → w'.cell? ⟨y, 0, none⟩ = some (.slice (some ad) n n)) := fun w' h => (h.cell (p := ⟨y, 0, none⟩) hyl).trans hc0
 have HD1 : Hid (∀ w', Below w.heap.size w w' → w'.cell? ⟨y, 1, none⟩ = some (.int .i64 (n : Int))) := fun w' h => (h.cell (p := ⟨y, 1, none⟩) hyl).trans hc1
 go_upto_region 4 with fail
 go_cut [5] (fun v5 wx => Own wx w.heap.size v5 [] ∧ Below w.heap.size w wx)
 case first =>
   go_region_held3 (fun w' => w'.cell? ⟨y, 0, none⟩ = some (.slice (some ad) n n) ∧ w'.cell? ⟨y, 1, none⟩ = some (.int .i64 (n : Int)))
     (go_keep)
     (first
       | (refine step_app rfl (.tmp 31) (.tmp 46) 22 rfl Tryz.underlying22 hinfo.out w.heap.size _ [] rfl ?_ _ 0 _ [] rfl ?_ ?_ ?_ ?_; exact HOWN.out _; exact HSUB.out _; exact HLEN.out; exact HSIZE.out _; intro v1 w1 HO1 hb1; have hbw1 := HBEL.out _ _ hb1; have hd0 := HD0.out _ hbw1; have hd1 := HD1.out _ hbw1))
   all_goals (go_wp2_with fail; go_meet; exact ⟨HO1.out, hbw1⟩)
 case rest =>
   obtain ⟨hown, hbw⟩ := hcut
   have hd1 : wc.cell? ⟨y, 1, none⟩ = some (.int .i64 (n : Int)) := (hbw.cell (p := ⟨y, 1, none⟩) hyl).trans hc1
   have hg1 : wc.frozen? ⟨y, 1, none⟩ = false := (hbw.frozen (p := ⟨y, 1, none⟩) hyl).trans hf1
   obtain ⟨A5, c5, rfl, _, _⟩ := hown.src
   have HO := Lib.hid hown
   clear hown hc1 hf1 hc0 hc2
   go_wp2_with fail
   go_ret
   refine ⟨_, rfl, own_setCell HO.out (p := ⟨y, 1, none⟩) hyl _, ⟨n, false, ?_, by omega, rfl⟩, only_setCell (p := ⟨y, 1, none⟩) (only_of_below hbw _) (.inl rfl) _⟩
   · have h := (HB.out.below hbw hyl).set_ 1 (.int .i64 (n : Int))
     rw [set3_1] at h
     exact h

set_option maxHeartbeats 1600000 in
theorem rtake_in (y : Nat) (A : Option Addr) (n c a q : Nat) (xs : List UInt8) (w : World) (hb : Blk w y 160 #[.slice A n c, .int .i64 (a : Int), .bool false]) (ha : a ≤ n) (hn : n ≤ 100000) (hnc : n ≤ c) (hc : c ≤ 9223372036854775807) (hq : q ≤ n - a)
   (hs : Src w A n xs) (hne : ¬ ∃ ad, A = some ad ∧ c = a) :
   Calls Tryz.prog 134 #[.pointer (some ⟨y, 0, none⟩), .int .i64 (q : Int)] w (RTakePost w y A n c xs ((xs.drop a).take q, some (xs.drop (a + q)))) := by
 have hc0 : w.cell? ⟨y, 0, none⟩ = some (.slice A n c) := by rw [hb.cell]; rfl
 have hc1 : w.cell? ⟨y, 1, none⟩ = some (.int .i64 (a : Int)) := by rw [hb.cell]; rfl
 have hc2 : w.cell? ⟨y, 2, none⟩ = some (.bool false) := by rw [hb.cell]; rfl
 have hf1 := hb.frozen 1
 have HB := Lib.hid hb
 have hyl := hb.lt
 have hw : IntKind.i64.wrap ((n : Int) - (a : Int)) = (n : Int) - (a : Int) := IntWalk.i64_in _ (by omega)
 have hd : decide ((q : Int) < 0) = false := by rw [decide_eq_false_iff_not]; omega
 have hd2 : decide ((n : Int) - (a : Int) < (q : Int)) = false := by rw [decide_eq_false_iff_not]; omega
 clear hb
 go_enter Tryz.func134, Tryz.ntmps134
 go_wp2
 go_quiet (fail)
 go_wp2_with fail
 clear hw hd hd2
 have hw2 : IntKind.i64.wrap ((a : Int) + (q : Int)) = (a : Int) + (q : Int) := IntWalk.i64_in _ (by omega)
 have b1 : (0 : Int) ≤ (a : Int) := by omega
 have b2 : (a : Int) ≤ (a : Int) + (q : Int) := by omega
 have b3 : (a : Int) + (q : Int) ≤ (c : Int) := by omega
 have hinfo := Lib.hid info8
 have HS := Lib.hid hs
 clear hs
 have hq2 : ((a : Int) + (q : Int)).toNat = a + q := by omega
 cases A with
 | none =>
   have hn0 : n = 0 := by
     rcases Nat.eq_zero_or_pos n with h | h
     · exact h
     · obtain ⟨ad, e, _⟩ := HS.out.2 h; cases e
   have Hq0 : Hid (q = 0) := by show q = 0; omega
   have HSUB : Hid (∀ k, Src ((w.drewN k).alloc (.cells #[] 5)) (none) q ((xs.drop a).take q)) := fun k => Src.zero _ _ xs a q Hq0.out
   have HLEN : Hid (([] : List UInt8).length + q ≤ 140737488355328) := by show 0 + q ≤ _; omega
   have HOWN : Hid (∀ k, Own ((w.drewN k).alloc (.cells #[] 5)) w.heap.size (.slice (some ⟨w.heap.size, 0, none⟩) 0 0) []) := fun k => Own.empty (w.drewN k) w.heap.size (Nat.le_refl _)
   have HSIZE : Hid (∀ k, w.heap.size ≤ ((w.drewN k).alloc (.cells #[] 5)).heap.size) := fun k => by show w.heap.size ≤ (w.heap.push _).size; simp
   have HBEL : Hid (∀ k w', Below w.heap.size ((w.drewN k).alloc (.cells #[] 5)) w' → Below w.heap.size w w') := fun k w' h => (below_drewN k ((Below.refl _ _).alloc (Nat.le_refl _) _)).trans h
   have HD0 : Hid (∀ w', Below w.heap.size w w' → w'.cell? ⟨y, 0, none⟩ = some (.slice (none) n c)) := fun w' h => (h.cell (p := ⟨y, 0, none⟩) hyl).trans hc0
   have HD1 : Hid (∀ w', Below w.heap.size w w' → w'.cell? ⟨y, 1, none⟩ = some (.int .i64 (a : Int))) := fun w' h => (h.cell (p := ⟨y, 1, none⟩) hyl).trans hc1
   go_upto_region 4 with fail
   go_cut [5] (fun v5 wx => Own wx w.heap.size v5 ((xs.drop a).take q) ∧ Below w.heap.size w wx)
   case first =>
     go_region_held3 (fun w' => w'.cell? ⟨y, 0, none⟩ = some (.slice (none) n c) ∧ w'.cell? ⟨y, 1, none⟩ = some (.int .i64 (a : Int)))
       (go_keep)
       (first
         | (refine step_app rfl (.tmp 31) (.tmp 46) 22 rfl Tryz.underlying22 hinfo.out w.heap.size _ [] rfl ?_ _ q _ ((xs.drop a).take q) rfl ?_ ?_ ?_ ?_; exact HOWN.out _; exact HSUB.out _; exact HLEN.out; exact HSIZE.out _; intro v1 w1 HO1 hb1; have hbw1 := HBEL.out _ _ hb1; have hd0 := HD0.out _ hbw1; have hd1 := HD1.out _ hbw1))
     all_goals (go_wp2_with fail; go_meet; exact ⟨by have h := HO1.out; rwa [List.nil_append] at h, hbw1⟩)
   case rest =>
     obtain ⟨hown, hbw⟩ := hcut
     have hd1 : wc.cell? ⟨y, 1, none⟩ = some (.int .i64 (a : Int)) := (hbw.cell (p := ⟨y, 1, none⟩) hyl).trans hc1
     have hg1 : wc.frozen? ⟨y, 1, none⟩ = false := (hbw.frozen (p := ⟨y, 1, none⟩) hyl).trans hf1
     obtain ⟨A5, c5, rfl, _, _⟩ := hown.src
     have HO := Lib.hid hown
     clear hown hc1 hf1 hc0 hc2
     go_wp2_with fail
     go_ret
     refine ⟨_, rfl, own_setCell HO.out (p := ⟨y, 1, none⟩) hyl _, ⟨a + q, false, ?_, by omega, rfl⟩, only_setCell (p := ⟨y, 1, none⟩) (only_of_below hbw _) (.inl rfl) _⟩
     · have h := (HB.out.below hbw hyl).set_ 1 (.int .i64 ((a : Int) + (q : Int)))
       rw [set3_1] at h
       rw [Int.natCast_add]
       exact h
 | some ad =>
   have hca : c ≠ a := fun h => hne ⟨ad, rfl, h⟩
   have Hsub := Lib.hid (Src.sub (a := a) (q := q) HS.out (by omega))
   have HSUB : Hid (∀ k, Src ((w.drewN k).alloc (.cells #[] 5)) (some (ad.add a)) q ((xs.drop a).take q)) := fun k => Src.alloc (w := w.drewN k) Hsub.out _
   have HLEN : Hid (([] : List UInt8).length + q ≤ 140737488355328) := by show 0 + q ≤ _; omega
   have HOWN : Hid (∀ k, Own ((w.drewN k).alloc (.cells #[] 5)) w.heap.size (.slice (some ⟨w.heap.size, 0, none⟩) 0 0) []) := fun k => Own.empty (w.drewN k) w.heap.size (Nat.le_refl _)
   have HSIZE : Hid (∀ k, w.heap.size ≤ ((w.drewN k).alloc (.cells #[] 5)).heap.size) := fun k => by show w.heap.size ≤ (w.heap.push _).size; simp
   have HBEL : Hid (∀ k w', Below w.heap.size ((w.drewN k).alloc (.cells #[] 5)) w' → Below w.heap.size w w') := fun k w' h => (below_drewN k ((Below.refl _ _).alloc (Nat.le_refl _) _)).trans h
   have HD0 : Hid (∀ w', Below w.heap.size w w' → w'.cell? ⟨y, 0, none⟩ = some (.slice (some ad) n c)) := fun w' h => (h.cell (p := ⟨y, 0, none⟩) hyl).trans hc0
   have HD1 : Hid (∀ w', Below w.heap.size w w' → w'.cell? ⟨y, 1, none⟩ = some (.int .i64 (a : Int))) := fun w' h => (h.cell (p := ⟨y, 1, none⟩) hyl).trans hc1
   go_upto_region 4 with fail
   go_cut [5] (fun v5 wx => Own wx w.heap.size v5 ((xs.drop a).take q) ∧ Below w.heap.size w wx)
   case first =>
     go_region_held3 (fun w' => w'.cell? ⟨y, 0, none⟩ = some (.slice (some ad) n c) ∧ w'.cell? ⟨y, 1, none⟩ = some (.int .i64 (a : Int)))
       (go_keep)
       (first
         | (refine step_app rfl (.tmp 31) (.tmp 46) 22 rfl Tryz.underlying22 hinfo.out w.heap.size _ [] rfl ?_ _ q _ ((xs.drop a).take q) rfl ?_ ?_ ?_ ?_; exact HOWN.out _; exact HSUB.out _; exact HLEN.out; exact HSIZE.out _; intro v1 w1 HO1 hb1; have hbw1 := HBEL.out _ _ hb1; have hd0 := HD0.out _ hbw1; have hd1 := HD1.out _ hbw1))
     all_goals (go_wp2_with fail; go_meet; exact ⟨by have h := HO1.out; rwa [List.nil_append] at h, hbw1⟩)
   case rest =>
     obtain ⟨hown, hbw⟩ := hcut
     have hd1 : wc.cell? ⟨y, 1, none⟩ = some (.int .i64 (a : Int)) := (hbw.cell (p := ⟨y, 1, none⟩) hyl).trans hc1
     have hg1 : wc.frozen? ⟨y, 1, none⟩ = false := (hbw.frozen (p := ⟨y, 1, none⟩) hyl).trans hf1
     obtain ⟨A5, c5, rfl, _, _⟩ := hown.src
     have HO := Lib.hid hown
     clear hown hc1 hf1 hc0 hc2
     go_wp2_with fail
     go_ret
     refine ⟨_, rfl, own_setCell HO.out (p := ⟨y, 1, none⟩) hyl _, ⟨a + q, false, ?_, by omega, rfl⟩, only_setCell (p := ⟨y, 1, none⟩) (only_of_below hbw _) (.inl rfl) _⟩
     · have h := (HB.out.below hbw hyl).set_ 1 (.int .i64 ((a : Int) + (q : Int)))
       rw [set3_1] at h
       rw [Int.natCast_add]
       exact h

theorem rtake_any (y : Nat) (A : Option Addr) (n c : Nat) (xs : List UInt8) (st : Option (List UInt8)) (q : Int) (w : World) (hr : RR w y A n c xs st) (hn : n ≤ 100000) (hnc : n ≤ c) (hc : c ≤ 9223372036854775807) (hs : Src w A n xs) :
   Calls Tryz.prog 134 #[.pointer (some ⟨y, 0, none⟩), .int .i64 q] w (RTakePost w y A n c xs (takeS st q)) := by
 obtain ⟨a, off, hb, ha, rfl⟩ := hr
 cases off with
 | true => exact rtake_bad y A n c a xs q w hb ha
 | false =>
   show Calls _ _ _ _ (RTakePost w y A n c xs (takeS (some (xs.drop a)) q))
   by_cases hq : 0 ≤ q ∧ q ≤ (n : Int) - a
   · obtain ⟨k, rfl⟩ := Int.eq_ofNat_of_zero_le hq.1
     rw [takeS_in _ _ (by rw [List.length_drop, hs.1]; omega), List.drop_drop]
     by_cases hne : ∃ ad, A = some ad ∧ c = a
     · obtain ⟨ad, rfl, rfl⟩ := hne
       obtain rfl : n = c := by omega
       obtain rfl : k = 0 := by omega
       exact rtake_full y ad n xs w hb hn
     · exact rtake_in y A n c a k xs w hb ha hn hnc hc (by omega) hs hne
   · rw [takeS_out _ _ (by rw [List.length_drop, hs.1]; omega)]
     exact rtake_out y A n c a xs q w hb ha hn hq
end Go.Proofs.YthfknndjdfofgaaGreatDoor.RefBe

/-
 Contracts of the document's own Reader of layer 1 (hagioscoperef01): Num, Vec.
-/
namespace Go.Proofs.YthfknndjdfofgaaGreatDoor.RefBe
open Go.RowKit Go.Proofs.YthfknndjdfofgaaGreatDoor.Wd Go.Proofs.YthfknndjdfofgaaGreatDoor.Be

def Far (A : Option Addr) (n y : Nat) : Prop := 0 < n → ∀ ad, A = some ad → ad.block ≠ y
theorem Src.grown_far {w w' : World} {A : Option Addr} {n y : Nat} {xs : List UInt8} (h : Src w A n xs) (hf : Far A n y) (hg : w.grownBy w' (some y)) : Src w' A n xs :=
 ⟨h.1, fun hn => by
   obtain ⟨ad, e, hlt, hc⟩ := h.2 hn
   refine ⟨ad, e, Nat.lt_of_lt_of_le hlt hg.size, fun j c hj => ?_⟩
   rw [World.cell?_of_block (w := w) (hg.block (ad.add j).block (by rw [block_of_add]; exact hlt) (by rw [block_of_add]; have := hf hn ad e; simp [this]))]
   exact hc j c hj⟩

def RNumPost (w : World) (y : Nat) (A : Option Addr) (n c : Nat) (xs : List UInt8) (p : Nat × Option (List UInt8)) (e : Ending) (w' : World) : Prop :=
 e = .returned (.int .i64 (p.1 : Int)) ∧ RR w' y A n c xs p.2 ∧ w.grownBy w' (some y)

set_option maxHeartbeats 800000 in
theorem rnum_any (y : Nat) (A : Option Addr) (n c : Nat) (xs : List UInt8) (st : Option (List UInt8)) (size : Int) (w : World) (hr : RR w y A n c xs st) (hn : n ≤ 100000) (hnc : n ≤ c) (hc : c ≤ 9223372036854775807) (hs : Src w A n xs) :
   Calls Tryz.prog 133 #[.pointer (some ⟨y, 0, none⟩), .int .i64 size] w (RNumPost w y A n c xs (numS st size)) := by
 have HR := Lib.hid hr
 have HS := Lib.hid hs
 clear hr hs
 have hcb := clampI_bd size
 go_enter Tryz.func133, Tryz.ntmps133
 go_wp2_with fail
 refine (rclamp_any _ _).mono ?_
 rintro e w1 ⟨rfl, rfl⟩
 go_wp2_with fail
 refine (rtake_any y A n c xs st _ w HR.out hn hnc hc HS.out).mono ?_
 rintro e w1 ⟨v, rfl, hown, hrr, hgr⟩
 obtain ⟨A', c', rfl, _, hsrc⟩ := hown.src
 have hlen := takeS_len st (clampI size) (by omega)
 have Hfin : Hid (numS st size = (natOf (takeS st (clampI size)).1, (takeS st (clampI size)).2)) := rfl
 generalize takeS st (clampI size) = p at *
 obtain ⟨zs, st'⟩ := p
 simp only at hrr hlen hsrc Hfin
 have hl4 : zs.length ≤ 4 := by omega
 have HRR := Lib.hid hrr
 have HZ := Lib.hid hsrc
 clear hrr hsrc hlen hcb
 go_wp2_with fail
 go_loop [6, 7] (fun m i => ∃ k : Nat, k ≤ zs.length ∧ i = .int .i64 k ∧ m = .int .i64 (natOf (zs.take k) : Int)) (fun _ i => zs.length - (intOf i).toNat)
 case atStart => exact ⟨0, Nat.zero_le _, rfl, rfl⟩
 case round =>
   obtain ⟨k, hk, rfl, rfl⟩ := hrel
   by_cases hlt : k < zs.length
   · obtain ⟨ad, rfl, _, hcc⟩ := HZ.out.2 (by omega)
     have hcell : w1.cell? (ad.add k) = some (.int .u8 (zs[k].toNat : Int)) := hcc k _ (List.getElem?_eq_getElem hlt)
     have hb : zs[k].toNat < 256 := zs[k].toNat_lt
     have hnl := natOf_lt (zs.take k)
     have htl : (zs.take k).length = k := by rw [List.length_take]; omega
     have hn3 : natOf (zs.take k) < 16777216 := by
       rw [htl] at hnl
       exact Nat.lt_of_lt_of_le hnl (Nat.pow_le_pow_right (n := 256) (by omega) (by omega : k ≤ 3))
     clear hnl htl hcc
     have hsn : natOf (zs.take (k + 1)) = natOf (zs.take k) * 256 + zs[k].toNat := by
       rw [List.take_add_one, List.getElem?_eq_getElem hlt]; exact natOf_snoc _ _
     have HSN := Lib.hid hsn
     clear hsn
     generalize natOf (zs.take k) = a at *
     generalize zs[k].toNat = b at *
     go_wp2
     go_round
     case rel => exact ⟨k + 1, by omega, by go_num, by rw [HSN.out]; go_num⟩
     case measure => simp [intOf]; omega
   · obtain rfl : k = zs.length := by omega
     go_wp2
     go_ret
     rw [Hfin.out]
     exact ⟨rfl, HRR.out, hgr⟩

set_option maxHeartbeats 800000 in
theorem rrvec_any (y : Nat) (A : Option Addr) (n c : Nat) (xs : List UInt8) (st : Option (List UInt8)) (size : Int) (w : World) (hr : RR w y A n c xs st) (hn : n ≤ 100000) (hnc : n ≤ c) (hc : c ≤ 9223372036854775807) (hs : Src w A n xs) (hf : Far A n y) :
   Calls Tryz.prog 135 #[.pointer (some ⟨y, 0, none⟩), .int .i64 size] w (RTakePost w y A n c xs (vecS st size)) := by
 have HR := Lib.hid hr
 have HS := Lib.hid hs
 have HF := Lib.hid hf
 clear hr hs hf
 go_enter Tryz.func135, Tryz.ntmps135
 go_wp2_with fail
 refine (rnum_any y A n c xs st size w HR.out hn hnc hc HS.out).mono ?_
 rintro e w1 ⟨rfl, hrr, hgr⟩
 have Hv : Hid (vecS st size = takeS (numS st size).2 ((numS st size).1 : Int)) := rfl
 generalize numS st size = p at *
 obtain ⟨m, st'⟩ := p
 simp only at hrr Hv
 have HRR := Lib.hid hrr
 have HS1 := Lib.hid (Src.grown_far HS.out HF.out hgr)
 obtain ⟨a, off, hb, _, rfl⟩ := hrr
 have hc2 : w1.cell? ⟨y, 2, none⟩ = some (.bool off) := by rw [hb.cell]; rfl
 clear hb
 cases off with
 | true =>
   go_wp2_with fail
   go_ret
   rw [Hv.out]
   exact ⟨_, rfl, ⟨rfl, .inl ⟨rfl, rfl⟩⟩, HRR.out, hgr⟩
 | false =>
   go_wp2_with fail
   refine (rtake_any y A n c xs _ _ w1 HRR.out hn hnc hc HS1.out).mono ?_
   rintro e w2 ⟨v, rfl, hown, hrr2, hgr2⟩
   have HA := Lib.hid (Own.lower hown hgr.size)
   obtain ⟨A', c', rfl, _, _⟩ := hown.src
   have HB := Lib.hid hrr2
   clear hown hrr2
   go_wp2_with fail
   go_ret
   rw [Hv.out]
   exact ⟨_, rfl, HA.out, HB.out, only_trans hgr hgr2⟩
end Go.Proofs.YthfknndjdfofgaaGreatDoor.RefBe

/-
 Bytes, extensions and a hello that a call made by appends (the document's own answers), as they lie in memory; the document's reader. Plain lemmas, no condition.
-/
namespace Go.Proofs.YthfknndjdfofgaaGreatDoor.He
set_option maxRecDepth 100000
open Go.RowKit Go.Proofs.YthfknndjdfofgaaGreatDoor.Wd Go.Proofs.YthfknndjdfofgaaGreatDoor.Be

def Sq (w : World) (v : Value) (xs : List UInt8) : Prop := Own w 0 v xs
theorem Sq.nil (w : World) : Sq w (.slice none 0 0) [] := ⟨rfl, .inl ⟨rfl, rfl⟩⟩
theorem Sq.of {w : World} {B : Nat} {v : Value} {xs : List UInt8} (h : Own w B v xs) : Sq w v xs := Own.lower h (Nat.zero_le _)
theorem Sq.src {w : World} {v : Value} {xs : List UInt8} (h : Sq w v xs) : ∃ A c, v = .slice A xs.length c ∧ xs.length ≤ c ∧ Src w A xs.length xs := Own.src h
theorem Sq.nc {w : World} {A : Option Addr} {n c : Nat} {xs : List UInt8} (h : Sq w (.slice A n c) xs) : n = xs.length ∧ n ≤ c ∧ Src w A n xs := by
 obtain ⟨A', c', e, h1, h2⟩ := h.src
 injection e with e1 e2 e3
 subst e1 e2 e3
 exact ⟨rfl, h1, h2⟩
theorem Sq.form {w : World} {v : Value} {xs : List UInt8} (h : Sq w v xs) : ∃ A c, v = .slice A xs.length c := by
 obtain ⟨A, c, e, _⟩ := h.src; exact ⟨A, c, e⟩
theorem Sq.off {w w' : World} {v : Value} {xs : List UInt8} {row : Option Nat} {T : TypeId → Prop} (h : Sq w v xs) (hb : w.grownBy w' row) (hr : OffT w row T) (ht : T 5) : Sq w' v xs := by
 obtain ⟨hl, h0 | ⟨g, cap, cur, hv, hg, hh, r⟩⟩ := h
 · exact ⟨hl, .inl h0⟩
 · have hbk : Blk w g 5 cur := hh
   exact ⟨hl, .inr ⟨g, cap, cur, hv, hg, hbk.grown hb (hr.far hbk ht), r⟩⟩
theorem Sq.below {w w' : World} {v : Value} {xs : List UInt8} (h : Sq w v xs) (hb : Below w.heap.size w w') : Sq w' v xs :=
 Sq.off (T := fun _ => True) h (only_of_below hb none) (OffT.none _ _) trivial

structure Xt.MineQ (w : World) (x : Xt) : Prop where
 sl : Sq w (.slice x.A x.n x.c) x.b
 n : x.n = x.b.length
 small : x.b.length < 65536
 k : 0 ≤ x.kind ∧ x.kind < 65536
structure OwnXq (w : World) (B : Nat) (v : Value) (l : List Xt) : Prop where
 row : w.ownsRow B 70 2 v l.length (flat l)
 each : ∀ x ∈ l, x.MineQ w
theorem OwnXq.nil (w : World) (B : Nat) : OwnXq w B (.slice none 0 0) [] := ⟨⟨rfl, .inl ⟨rfl, rfl⟩⟩, fun _ h => absurd h List.not_mem_nil⟩
theorem OwnXq.block {w : World} {B : Nat} {v : Value} {l : List Xt} (h : OwnXq w B v l) {T : TypeId → Prop} (hT : ¬ T 70) : OffT w v.ownBlock T := by
 obtain ⟨hl, ⟨rfl, h0⟩ | ⟨g, cap, cur, rfl, hg, hh, r⟩⟩ := h.row
 · exact fun g e => by cases e
 · exact OffT.of_blk (t := 70) (cs := cur) hh hT
theorem OwnXq.ge {w : World} {B : Nat} {v : Value} {l : List Xt} (h : OwnXq w B v l) : ∀ g, v.ownBlock = some g → B ≤ g := by
 obtain ⟨hl, ⟨rfl, h0⟩ | ⟨g, cap, cur, rfl, hg, hh, r⟩⟩ := h.row
 · exact fun g e => by cases e
 · exact fun g' e => by
     have e' : g = g' := Option.some.inj e
     rw [← e']; exact hg
theorem OwnXq.off {w w' : World} {B : Nat} {v : Value} {l : List Xt} {row : Option Nat} (h : OwnXq w B v l) (hb : w.grownBy w' row) (hr : OffT w row TX) : OwnXq w' B v l := by
 refine ⟨?_, fun x hx => ?_⟩
 · obtain ⟨hl, h0 | ⟨g, cap, cur, hv, hg, hh, r⟩⟩ := h.row
   · exact ⟨hl, .inl h0⟩
   · have hbk : Blk w g 70 cur := hh
     exact ⟨hl, .inr ⟨g, cap, cur, hv, hg, hbk.grown hb (hr.far hbk (.inl rfl)), r⟩⟩
 · have := h.each x hx
   exact ⟨Sq.off this.sl hb hr (.inr rfl), this.n, this.small, this.k⟩
theorem Xt.MineQ.ok {w : World} {x : Xt} (h : x.MineQ w) : x.Ok w := by
 obtain ⟨A', c', e, h1, h2⟩ := h.sl.src
 injection e with e1 e2 e3
 rw [← e1, ← e2] at h2
 have := h.n
 have := h.small
 have := h.k
 exact ⟨by omega, by omega, h2, by omega⟩
theorem OwnXq.src {w : World} {B : Nat} {v : Value} {l : List Xt} (h : OwnXq w B v l) : ∃ A c, v = .slice A l.length c ∧ l.length ≤ c ∧ SrcX w A l := by
 obtain ⟨hl, ⟨rfl, h0⟩ | ⟨g, cap, cur, rfl, hg, hh, hc, _, hz, ht⟩⟩ := h.row
 · have : l = [] := List.eq_nil_of_length_eq_zero h0
   subst this
   exact ⟨none, 0, rfl, Nat.le_refl _, SrcX.nil w _⟩
 · have hget : ∀ (k : Nat) (u : Value), (flat l)[k]? = some u → w.cell? ⟨g, 0 + k, none⟩ = some u := fun k u hk => by
     rw [Nat.zero_add, Blk.cell (t := 70) (cs := cur) hh, ← Array.getElem?_toList]
     rw [← ht, List.getElem?_take] at hk
     split at hk
     · exact hk
     · cases hk
   refine ⟨_, cap, rfl, hc, fun k x hk => ⟨(h.each x (List.mem_of_getElem? hk)).ok, g, 0, rfl, Blk.lt (t := 70) (cs := cur) hh, ?_, ?_⟩⟩
   · exact hget _ _ (flat_get l k x hk).1
   · exact hget _ _ (flat_get l k x hk).2

theorem wpList_appXq {ops : Array Oper} {rest : List Oper} {o : Oper} {a : Act} {w : World} {Q : Exit → Act → World → Prop} (hgd : o.guard = none) (s x : Operand)
   (ho : o.op = .call { callee := .builtin .append, args := #[s, x], argTypes := #[66, 66] })
   (B : Nat) (v : Value) (l : List Xt) (hs : a.eval s = v) (hown : OwnXq w B v l) (g c : Nat) (z : Xt) (hx : a.eval x = .slice (some ⟨g, 0, none⟩) 1 c) (hm : z.MineQ w)
   (h0 : w.cell? ⟨g, 0, none⟩ = some (.int .i64 z.kind)) (h1 : w.cell? ⟨g, 1, none⟩ = some (.slice z.A z.n z.c))
   (hlen : l.length + 1 ≤ 4294967296) (hB : B ≤ w.heap.size)
   (h : ∀ v' w', Hid (OwnXq w' B v' (l ++ [z])) → Hid (w.grownBy w' v.ownBlock) → wpList Tryz.prog ops Q rest (a.put o.dst v') w') : wpList Tryz.prog ops Q (o :: rest) a w := by
 obtain ⟨i0, hi, hz0, hz1, hz2⟩ := info_parts infX
 obtain ⟨v', w', hrun, h2, h3, _, _⟩ := run_append_own_at (P := Tryz.prog) w B 66 o.type 70 i0 (.agg #[.int .i64 0, .slice none 0 0]) 2 32 Tryz.underlying66 hi hz0 hz1 hz2 rfl (by omega) v l.length (flat l) hown.row ⟨g, 0, none⟩ 1 c (xc z) rfl
   (fun j u hu => by
     match j with
     | 0 => simp [xc] at hu; subst hu; exact h0
     | 1 => simp [xc] at hu; subst hu; exact h1
     | j + 2 => simp [xc] at hu) (by simp [xc, Value.oneCell']) (by unfold maxLen; omega) (by omega) hB
 have e1 : OwnXq w' B v' (l ++ [z]) := by
   refine ⟨?_, fun y hy => ?_⟩
   · rw [List.length_append, flat_snoc]
     exact h2
   · have hy' : y.MineQ w := by
       rcases List.mem_append.1 hy with hy | hy
       · exact hown.each y hy
       · simp at hy; subst hy; exact hm
     exact ⟨Sq.off hy'.sl h3 (hown.block (T := (· = 5)) (by decide)) rfl, hy'.n, hy'.small, hy'.k⟩
 refine wpList_plain hgd fun K hK => ?_
 unfold Oper.wp execOp
 simp only [ho, resolve, invoke, builtin, Sem.run_bind, Sem.run_pure, Result.andThen_ok, List.map_toArray, List.map_cons, List.map_nil, hs, hx, hrun]
 exact hK _ _ (h v' w' (Lib.hid e1) (Lib.hid h3))
structure HOwq (w : World) (H : Hv) : Prop where
 rnd : H.rnd.length = 32
 ver : 0 ≤ H.ver ∧ H.ver < 65536
 ses : Sq w (.slice H.sA H.ses.length H.sc) H.ses
 s1 : H.ses.length < 65536
 cph : OwnI w 0 (.slice H.cA H.cph.length H.cc) H.cph
 c1 : H.cph.length < 65536
 c2 : ∀ n ∈ H.cph, In2 n
 met : Sq w (.slice H.mA H.met.length H.mc) H.met
 m1 : H.met.length < 65536
 xs : OwnXq w 0 (.slice H.xA H.xs.length H.xc) H.xs
 x1 : H.xs.length < 65536
theorem HOwq.off {w w' : World} {H : Hv} {row : Option Nat} (h : HOwq w H) (hb : w.grownBy w' row) (hr : OffT w row TW) : HOwq w' H :=
 ⟨h.rnd, h.ver, Sq.off h.ses hb hr (.inl rfl), h.s1, h.cph.off hb (hr.mono fun _ e => .inr (.inl e)), h.c1, h.c2, Sq.off h.met hb hr (.inl rfl), h.m1,
   h.xs.off hb (hr.mono fun _ e => e.elim (fun e => .inr (.inr e)) (fun e => .inl e)), h.x1⟩
theorem HOwq.below {w w' : World} {H : Hv} (h : HOwq w H) (hb : Below w.heap.size w w') : HOwq w' H := h.off (only_of_below hb none) (OffT.none _ _)
theorem OwnXq.nc {w : World} {B : Nat} {A : Option Addr} {n c : Nat} {l : List Xt} (h : OwnXq w B (.slice A n c) l) : n = l.length ∧ n ≤ c ∧ SrcX w A l := by
 obtain ⟨A', c', e, h1, h2⟩ := h.src
 injection e with e1 e2 e3
 subst e1 e2 e3
 exact ⟨rfl, h1, h2⟩
theorem HOwq.ok {w : World} {H : Hv} (h : HOwq w H) : H.Ok w := by
 have a1 := Sq.nc h.ses
 have a2 := OwnI.nc h.cph
 have a3 := Sq.nc h.met
 have a4 := OwnXq.nc h.xs
 have := h.ver
 have := h.s1
 have := h.c1
 have := h.m1
 have := h.x1
 exact ⟨by omega, h.rnd, ⟨a1.2.1, by omega⟩, a1.2.2, ⟨a2.2.1, by omega⟩, fun n hn => by have := h.c2 n hn; unfold In2 at this; omega, a2.2.2, ⟨a3.2.1, by omega⟩, a3.2.2, ⟨a4.2.1, by omega⟩, a4.2.2⟩
theorem HOwq.zero (w : World) : HOwq w Hv.zero :=
 ⟨rfl, ⟨Int.le_refl _, by decide⟩, .nil w, by decide, OwnI.nil w 0, by decide, fun _ h => absurd h List.not_mem_nil, .nil w, by decide, OwnXq.nil w 0, by decide⟩
theorem OwnXq.lower {w : World} {B B' : Nat} {v : Value} {l : List Xt} (h : OwnXq w B v l) (hB : B' ≤ B) : OwnXq w B' v l := by
 obtain ⟨⟨hl, h0 | ⟨g, cap, cur, hv, hg, r⟩⟩, h2⟩ := h
 · exact ⟨⟨hl, .inl h0⟩, h2⟩
 · exact ⟨⟨hl, .inr ⟨g, cap, cur, hv, Nat.le_trans hB hg, r⟩⟩, h2⟩
theorem OwnXq.form {w : World} {B : Nat} {v : Value} {l : List Xt} (h : OwnXq w B v l) : ∃ A c, v = .slice A l.length c := by
 obtain ⟨A, c, e, _⟩ := h.src; exact ⟨A, c, e⟩

structure HAq (w : World) (g : Nat) (H : Hv) : Prop where
 blk : Blk w g 68 H.C
 own : HOwq w H
theorem HAq.off {w w' : World} {g : Nat} {H : Hv} {row : Option Nat} (h : HAq w g H) (hb : w.grownBy w' row) (hr : OffT w row TA) : HAq w' g H :=
 ⟨h.blk.grown hb (hr.far h.blk (.inr rfl)), h.own.off hb (hr.mono fun _ e => .inl e)⟩
theorem HAq.below {w w' : World} {g : Nat} {H : Hv} (h : HAq w g H) (hb : Below w.heap.size w w') : HAq w' g H := ⟨h.blk.below hb h.blk.lt, h.own.below hb⟩
theorem HOwq.set_ {w : World} {g i : Nat} {H : Hv} {cs : Array Value} (h : HOwq w H) (hb : Blk w g 68 cs) (u : Value) : HOwq (w.setCell ⟨g, i, none⟩ u) H :=
 h.off (only_setCell (p := ⟨g, i, none⟩) (only_refl w (some g)) (.inl rfl) u) (OffT.of_blk hb (by unfold TW; decide))
section
variable {w : World} {g : Nat} {H : Hv}
theorem HAq.set_ver (h : HAq w g H) (v : Int) (hv : 0 ≤ v ∧ v < 65536) : HAq (w.setCell ⟨g, 0, none⟩ (.int .i64 v)) g { H with ver := v } := by
 refine ⟨?_, ?_⟩
 · have := h.blk.set_ 0 (.int .i64 v)
   rw [C_set] at this
   exact this
 · have h' := h.own.set_ (i := 0) h.blk (.int .i64 v)
   exact ⟨h'.rnd, hv, h'.ses, h'.s1, h'.cph, h'.c1, h'.c2, h'.met, h'.m1, h'.xs, h'.x1⟩
theorem HAq.set_ses (h : HAq w g H) (A : Option Addr) (c : Nat) (x : List UInt8) (hx : Sq w (.slice A x.length c) x) (hl : x.length < 65536) : HAq (w.setCell ⟨g, 33, none⟩ (.slice A x.length c)) g { H with sA := A, sc := c, ses := x } := by
 refine ⟨?_, ?_⟩
 · have := h.blk.set_ 33 (.slice A x.length c)
   rw [C_set, show (33 : Nat) = 33 + 0 from rfl, L_set h.own.rnd] at this
   exact this
 · have h' := h.own.set_ (i := 33) h.blk (.slice A x.length c)
   exact ⟨h'.rnd, h'.ver, Sq.off hx (only_setCell (p := ⟨g, 33, none⟩) (only_refl w (some g)) (.inl rfl) _) (OffT.of_blk h.blk (T := TW) (by unfold TW; decide)) (.inl rfl), hl, h'.cph, h'.c1, h'.c2, h'.met, h'.m1, h'.xs, h'.x1⟩
theorem HAq.set_met (h : HAq w g H) (A : Option Addr) (c : Nat) (x : List UInt8) (hx : Sq w (.slice A x.length c) x) (hl : x.length < 65536) : HAq (w.setCell ⟨g, 35, none⟩ (.slice A x.length c)) g { H with mA := A, mc := c, met := x } := by
 refine ⟨?_, ?_⟩
 · have := h.blk.set_ 35 (.slice A x.length c)
   rw [C_set, show (35 : Nat) = 33 + 2 from rfl, L_set h.own.rnd] at this
   exact this
 · have h' := h.own.set_ (i := 35) h.blk (.slice A x.length c)
   exact ⟨h'.rnd, h'.ver, h'.ses, h'.s1, h'.cph, h'.c1, h'.c2, Sq.off hx (only_setCell (p := ⟨g, 35, none⟩) (only_refl w (some g)) (.inl rfl) _) (OffT.of_blk h.blk (T := TW) (by unfold TW; decide)) (.inl rfl), hl, h'.xs, h'.x1⟩
theorem HAq.set_has (h : HAq w g H) (b : Bool) : HAq (w.setCell ⟨g, 36, none⟩ (.bool b)) g { H with has := b } := by
 refine ⟨?_, ?_⟩
 · have := h.blk.set_ 36 (.bool b)
   rw [C_set, show (36 : Nat) = 33 + 3 from rfl, L_set h.own.rnd] at this
   exact this
 · have h' := h.own.set_ (i := 36) h.blk (.bool b)
   exact ⟨h'.rnd, h'.ver, h'.ses, h'.s1, h'.cph, h'.c1, h'.c2, h'.met, h'.m1, h'.xs, h'.x1⟩
theorem HAq.set_xs (h : HAq w g H) (A : Option Addr) (c : Nat) (x : List Xt) (hx : OwnXq w 0 (.slice A x.length c) x) (hl : x.length < 65536) : HAq (w.setCell ⟨g, 37, none⟩ (.slice A x.length c)) g { H with xA := A, xc := c, xs := x } := by
 refine ⟨?_, ?_⟩
 · have := h.blk.set_ 37 (.slice A x.length c)
   rw [C_set, show (37 : Nat) = 33 + 4 from rfl, L_set h.own.rnd] at this
   exact this
 · have h' := h.own.set_ (i := 37) h.blk (.slice A x.length c)
   exact ⟨h'.rnd, h'.ver, h'.ses, h'.s1, h'.cph, h'.c1, h'.c2, h'.met, h'.m1, hx.off (only_setCell (p := ⟨g, 37, none⟩) (only_refl w (some g)) (.inl rfl) _) (OffT.of_blk h.blk (by unfold TX; decide)), hl⟩
end
theorem run_copy_rndq {w : World} {g : Nat} {H : Hv} (h : HAq w g H) (h0 : H.rnd = List.replicate 32 0) {ty : TypeId} {A : Option Addr} {m c d : Nat} {xs : List UInt8} (hs : Src w A m xs) (hm : m ≤ 32) :
   ∃ w' N, (Builtin.copy_ #[22, 22] ty #[.slice (some ⟨g, 1, none⟩) 32 d, .slice A m c]).run Tryz.prog w = .ok N w' ∧ HAq w' g { H with rnd := rowR xs } ∧ w.grownBy w' (some g) := by
 have hl := hs.1
 have hu : Tryz.prog.underlying 22 = some (.slice 5) := Tryz.underlying22
 have hz : (Tryz.prog.info? 5).map (·.size) = some 1 := by kernel_rfl
 have hrow : (rowR xs).length = 32 := by simp [rowR]; omega
 by_cases e0 : m = 0
 · have hx : xs = [] := List.eq_nil_of_length_eq_zero (by omega)
   refine ⟨w, _, run_copy_none w 22 22 ty 5 (some ⟨g, 1, none⟩) A 32 d m c hu hz (by show min m 32 = 0; omega), ?_, only_refl _ _⟩
   have : ({ H with rnd := rowR xs } : Hv) = H := by
     subst hx
     show ({ H with rnd := List.replicate 32 0 } : Hv) = H
     rw [← h0]
   rw [this]
   exact h
 · obtain ⟨ad, rfl, _, hc⟩ := hs.2 (by omega)
   have hlen : (cellsOf xs).length = min m 32 := by rw [cellsOf_length, hl]; omega
   have hrun := run_copy_row (P := Tryz.prog) w 22 22 ty 5 g 1 32 d ad m c H.C 68 (cellsOf xs) hu hz h.blk hlen (fun j v hj => by
       simp only [cellsOf, List.getElem?_map, Option.map_eq_some_iff] at hj
       obtain ⟨x, hx, rfl⟩ := hj
       exact hc j x hx) (by rw [hlen, Hv.size h.own.rnd]; omega) (cellsOf_one _)
   have hbk := setRow_heap w g H.C ((H.C.toList.take 1 ++ cellsOf xs ++ H.C.toList.drop (1 + (cellsOf xs).length)).toArray) 68 (0, 0) h.blk
   have hC : (H.C.toList.take 1 ++ cellsOf xs ++ H.C.toList.drop (1 + (cellsOf xs).length)).toArray = ({ H with rnd := rowR xs } : Hv).C := by
     simp only [Hv.C, Hv.L]
     congr 1
     rw [h0, cellsOf_length, Nat.add_comm 1, List.drop_succ_cons, List.drop_append_of_le_length (by simp [cellsOf]; omega)]
     simp only [rowR, cellsOf, List.map_append, List.map_replicate, List.drop_replicate, List.take_succ_cons, List.take_zero, List.append_assoc, List.cons_append, List.nil_append]
   have hg : w.grownBy (w.setRow g ((H.C.toList.take 1 ++ cellsOf xs ++ H.C.toList.drop (1 + (cellsOf xs).length)).toArray)) (some g) := by
     have hB := (But.refl [g] w).row (g := g) (.inl (List.mem_singleton.2 rfl)) ((H.C.toList.take 1 ++ cellsOf xs ++ H.C.toList.drop (1 + (cellsOf xs).length)).toArray)
     exact ⟨hB.os, hB.tape, hB.output, hB.size, fun i hi hn => hB.block i hi (fun hm => hn (by rw [List.mem_singleton.1 hm]))⟩
   refine ⟨_, _, hrun, ⟨?_, ?_⟩, hg⟩
   · rw [← hC]
     exact hbk
   · have h' := h.own.off hg (OffT.of_blk h.blk (by unfold TW; decide))
     exact ⟨hrow, h'.ver, h'.ses, h'.s1, h'.cph, h'.c1, h'.c2, h'.met, h'.m1, h'.xs, h'.x1⟩
theorem step_copy_rndq {ops : Array Oper} {o : Oper} {a : Act} {w : World} {K : Act → World → Prop} {Q : Exit → Act → World → Prop} {E : Prop} (dst : Option Tmp) (hdst : o.dst = dst) (hgd : o.guard = none) (d s : Operand)
   (ho : o.op = .call { callee := .builtin .copy, args := #[d, s], argTypes := #[22, 22] }) (g dc m c : Nat) (A : Option Addr) (xs : List UInt8) (H : Hv) (hd : a.eval d = .slice (some ⟨g, 1, none⟩) 32 dc) (hx : a.eval s = .slice A m c)
   (hH : HAq w g H) (h0 : H.rnd = List.replicate 32 0) (hs : Src w A m xs) (hm : m ≤ 32)
   (h : ∀ w' N, Hid (HAq w' g { H with rnd := rowR xs }) → Hid (w.grownBy w' (some g)) → K (a.put dst N) w') :
   if Region.wanted o (yielded ops a.tmps) = true then Oper.wp Tryz.prog o a w K Q else E := by
 subst hdst
 have hw : Region.wanted o (yielded ops a.tmps) = true := by simp [Region.wanted, hgd]
 rw [if_pos hw]
 obtain ⟨w', N, hrun, h2, h3⟩ := run_copy_rndq (ty := o.type) (c := c) (d := dc) hH h0 hs hm
 unfold Oper.wp execOp
 simp only [ho, resolve, invoke, builtin, Sem.run_bind, Sem.run_pure, Result.andThen_ok, List.map_toArray, List.map_cons, List.map_nil, hd, hx, hrun]
 exact h w' N (Lib.hid h2) (Lib.hid h3)

theorem Xt.MineQ.below {w w' : World} {x : Xt} (h : x.MineQ w) (hb : Below w.heap.size w w') : x.MineQ w' := ⟨h.sl.below hb, h.n, h.small, h.k⟩
theorem OwnXq.alloc {w : World} {B : Nat} {v : Value} {l : List Xt} (h : OwnXq w B v l) (o : Obj) : OwnXq (w.alloc o) B v l :=
 ⟨World.ownsRow.alloc h.row o, fun x hx => (h.each x hx).below ((Below.refl _ _).alloc (Nat.le_refl _) o)⟩

open Go.Proofs.YthfknndjdfofgaaGreatDoor.RefBe in
def Rq (B : Nat) (w : World) (y : Nat) (st : Option (List UInt8)) : Prop :=
 ∃ A n c xs, RR w y A n c xs st ∧ n ≤ 100000 ∧ n ≤ c ∧ c ≤ 9223372036854775807 ∧ Src w A n xs ∧ (0 < n → ∀ ad, A = some ad → ad.block < B) ∧ B ≤ y
section
open Go.Proofs.YthfknndjdfofgaaGreatDoor.RefBe
variable {B : Nat} {w w' : World} {y : Nat} {st : Option (List UInt8)}
theorem Rq.blk (h : Rq B w y st) : ∃ cs, Blk w y 160 cs := by
 obtain ⟨A, n, c, xs, h, _⟩ := h; exact h.blk
theorem Rq.far (h : Rq B w y st) : B ≤ y := by
 obtain ⟨A, n, c, xs, _, _, _, _, _, _, h⟩ := h; exact h
theorem Rq.bd (h : Rq B w y st) : leftS st ≤ 100000 := by
 obtain ⟨A, n, c, xs, ⟨a, off, _, _, rfl⟩, h1, _, _, h2, _⟩ := h
 cases off with
 | true => exact Nat.zero_le _
 | false => show (xs.drop a).length ≤ _; rw [List.length_drop, h2.1]; omega
theorem Rq.off {row : Option Nat} (h : Rq B w y st) (hb : w.grownBy w' row) (hr : ∀ g, row = some g → B ≤ g ∧ y ≠ g) : Rq B w' y st := by
 obtain ⟨A, n, c, xs, ⟨a, off, hk, ha, e⟩, h1, h2, h3, h4, h5, h6⟩ := h
 refine ⟨A, n, c, xs, ⟨a, off, hk.grown hb (fun e => (hr _ e.symm).2 rfl), ha, e⟩, h1, h2, h3, ⟨h4.1, fun hn => ?_⟩, h5, h6⟩
 obtain ⟨ad, e, hlt, hc⟩ := h4.2 hn
 refine ⟨ad, e, Nat.lt_of_lt_of_le hlt hb.size, fun j x hj => ?_⟩
 rw [World.cell?_of_block (w := w) (hb.block (ad.add j).block (by rw [block_of_add]; exact hlt) (by
   rw [block_of_add]
   intro e2
   have := (hr _ e2.symm).1
   have := h5 hn ad e
   omega))]
 exact hc j x hj
theorem Rq.below (h : Rq B w y st) (hb : Below w.heap.size w w') : Rq B w' y st := h.off (only_of_below hb none) (fun g e => by cases e)
theorem Rq.new {A : Option Addr} {n c : Nat} {xs : List UInt8} (hs : Src w A n xs) (hn : n ≤ 100000) (hnc : n ≤ c) (hc : c ≤ 9223372036854775807) (hB : w.heap.size = B) :
   Rq B (w.alloc (.cells #[.slice A n c, .int .i64 0, .bool false] 160)) w.heap.size (some xs) :=
 ⟨A, n, c, xs, ⟨0, false, Blk.new _ _ _, Nat.zero_le _, rfl⟩, hn, hnc, hc, hs.alloc _, fun h0 ad e => by
   obtain ⟨ad', e', hlt, _⟩ := hs.2 h0
   rw [e] at e'
   injection e' with e'
   rw [e', ← hB]; exact hlt, by omega⟩
theorem qleft_any (h : Rq B w y st) : Calls Tryz.prog 136 #[.pointer (some ⟨y, 0, none⟩)] w fun e w' => e = .returned (.int .i64 (leftS st : Int)) ∧ ∃ k, w' = w.drewN k := by
 obtain ⟨A, n, c, xs, h, h1, _, _, h2, _⟩ := h
 exact rleft_any y A n c xs st w h h2.1 h1
theorem qnum_any (h : Rq B w y st) (size : Int) : Calls Tryz.prog 133 #[.pointer (some ⟨y, 0, none⟩), .int .i64 size] w fun e w' => e = .returned (.int .i64 ((numS st size).1 : Int)) ∧ Rq B w' y (numS st size).2 ∧ w.grownBy w' (some y) := by
 obtain ⟨A, n, c, xs, h, h1, h2, h3, h4, h5, h6⟩ := h
 refine (rnum_any y A n c xs st size w h h1 h2 h3 h4).mono ?_
 rintro e w' ⟨rfl, hr, hg⟩
 exact ⟨rfl, ⟨A, n, c, xs, hr, h1, h2, h3, Src.grown_far h4 (fun h0 ad e e2 => by have := h5 h0 ad e; omega) hg, h5, h6⟩, hg⟩
def QPost (B : Nat) (w : World) (y : Nat) (p : List UInt8 × Option (List UInt8)) (e : Ending) (w' : World) : Prop :=
 ∃ v, e = .returned v ∧ Sq w' v p.1 ∧ Rq B w' y p.2 ∧ w.grownBy w' (some y)
theorem qtake_any (h : Rq B w y st) (q : Int) : Calls Tryz.prog 134 #[.pointer (some ⟨y, 0, none⟩), .int .i64 q] w (QPost B w y (takeS st q)) := by
 obtain ⟨A, n, c, xs, h, h1, h2, h3, h4, h5, h6⟩ := h
 refine (rtake_any y A n c xs st q w h h1 h2 h3 h4).mono ?_
 rintro e w' ⟨v, rfl, ho, hr, hg⟩
 exact ⟨v, rfl, Sq.of ho, ⟨A, n, c, xs, hr, h1, h2, h3, Src.grown_far h4 (fun h0 ad e e2 => by have := h5 h0 ad e; omega) hg, h5, h6⟩, hg⟩
theorem qvec_any (h : Rq B w y st) (size : Int) : Calls Tryz.prog 135 #[.pointer (some ⟨y, 0, none⟩), .int .i64 size] w (QPost B w y (vecS st size)) := by
 obtain ⟨A, n, c, xs, h, h1, h2, h3, h4, h5, h6⟩ := h
 refine (rrvec_any y A n c xs st size w h h1 h2 h3 h4 (fun h0 ad e e2 => by have := h5 h0 ad e; omega)).mono ?_
 rintro e w' ⟨v, rfl, ho, hr, hg⟩
 exact ⟨v, rfl, Sq.of ho, ⟨A, n, c, xs, hr, h1, h2, h3, Src.grown_far h4 (fun h0 ad e e2 => by have := h5 h0 ad e; omega) hg, h5, h6⟩, hg⟩
theorem Rq.bad (h : Rq B w y st) : w.cell? ⟨y, 2, none⟩ = some (.bool st.isNone) := by
 obtain ⟨A, n, c, xs, ⟨a, off, hk, _, rfl⟩, _⟩ := h
 rw [hk.cell]
 cases off <;> rfl
end
end Go.Proofs.YthfknndjdfofgaaGreatDoor.He
