/-
 Contracts over this seat's translation: slices.IndexFunc and slices.DeleteFunc at names with their types, with the closure that tells those that are no hosts.
-/
import Derived.Test.YthfknndjdfofgaaGreatDoorQ06
import Derived.Laws.IdiomCopy
import Derived.Test.YthfknndjdfofgaaGreatDoorQ01
import Derived.Test.YthfknndjdfofgaaGreatDoorQ05
import Derived.Lib.Strings
namespace Go.Proofs.YthfknndjdfofgaaGreatDoor.Ex
open Go.RowKit Go.Proofs.YthfknndjdfofgaaGreatDoor.Wd Go.Proofs.YthfknndjdfofgaaGreatDoor.Be Go.Proofs.YthfknndjdfofgaaGreatDoor.He Go.Proofs.YthfknndjdfofgaaGreatDoor.Ro

set_option maxHeartbeats 400000 in
theorem other_any (x : Int × List UInt8) (w : World) :
   Calls Tryz.prog 172 #[valT x] w fun e w' => e = .returned (.bool (!hostB x)) ∧ Below w.heap.size w w' := by
 have HB := Lib.hid ((Below.refl w.heap.size w).alloc (Nat.le_refl _) (.cells #[Value.int .i64 x.1, .string (str8 x.2)] 188))
 unfold valT
 by_cases h : x.1 = 0
 · have hb : (x.1 != 0) = false := by simp [h]
   have H := Lib.hid (show (!hostB x) = false by unfold hostB; simp [h])
   clear h
   go_enter Tryz.func172, Tryz.ntmps172
   go_wp2_with fail
   go_ret
   rw [H.out]
   exact ⟨rfl, HB.out⟩
 · have hb : (x.1 != 0) = true := by simp [h]
   have H := Lib.hid (show (!hostB x) = true by unfold hostB; simp [h])
   clear h
   go_enter Tryz.func172, Tryz.ntmps172
   go_wp2_with fail
   go_ret
   rw [H.out]
   exact ⟨rfl, HB.out⟩

def IdxPost (l : List (Int × List UInt8)) (w : World) (e : Ending) (w' : World) : Prop :=
 ((e = .returned (.int .i64 (-1)) ∧ ∀ x ∈ l, hostB x = true) ∨ ∃ k : Nat, e = .returned (.int .i64 (k : Int)) ∧ k < l.length ∧ (∀ x ∈ l.take k, hostB x = true) ∧ ∀ x, l[k]? = some x → hostB x = false) ∧ Below w.heap.size w w'

set_option maxRecDepth 100000 in
set_option maxHeartbeats 1000000 in
theorem idx_any (A : Option Addr) (n c : Nat) (l : List (Int × List UInt8)) (w : World) (hs : SrcE w elT A l) (hn : l.length = n) (hm : n ≤ 65535) :
   Calls Tryz.prog 195 #[.slice A n c, .func (.func 172) #[] #[]] w (IdxPost l w) := by
 have HS := Lib.hid hs
 have HN := Lib.hid hn
 clear hs hn
 go_enter Tryz.func195, Tryz.ntmps195
 go_wp2_with fail
 go_loopw [8] (fun i wr => ∃ k, k ≤ n ∧ i = .int .i64 (k : Int) ∧ Hid (∀ x ∈ l.take k, hostB x = true) ∧ Hid (Below w.heap.size w wr)) (fun i _ => n - (intOf i).toNat)
 case atStart => exact ⟨0, Nat.zero_le _, rfl, Lib.hid (by simp), Lib.hid (Below.refl _ _)⟩
 case round =>
   obtain ⟨k, hk, rfl, HA, HB⟩ := hrel
   by_cases hlt : k < n
   · have hki : (k : Int) < (n : Int) := by omega
     obtain ⟨x, hx⟩ : ∃ x, l[k]? = some x := ⟨_, List.getElem?_eq_getElem (by have := HN.out; omega)⟩
     obtain ⟨g, o, hA, hg, hc⟩ := HS.out k x hx
     have hc0 : wr.cell? ⟨g, o + k * 2, none⟩ = some (.int .i64 x.1) := (HB.out.cell (p := ⟨g, _, none⟩) hg).trans (hc 0 _ rfl)
     have hc1 : wr.cell? ⟨g, o + k * 2 + 1, none⟩ = some (.string (str8 x.2)) := (HB.out.cell (p := ⟨g, _, none⟩) hg).trans (by have := hc 1 _ rfl; rwa [← Nat.add_assoc] at this)
     rw [hA]
     have HX := Lib.hid hx
     clear hA hc hx
     go_wp2_with fail
     refine (other_any x wr).mono ?_
     rintro e w1 ⟨rfl, hb1⟩
     have HB1 := Lib.hid (HB.out.trans (hb1.mono HB.out.size))
     clear hb1 hc0 hc1
     obtain ⟨b, hb⟩ : ∃ b, hostB x = b := ⟨_, rfl⟩
     rw [hb]
     have Hb := Lib.hid hb
     clear hb
     cases b with
     | true =>
       go_wp2_with fail
       go_roundw
       case rel => exact ⟨k + 1, by omega, by go_num, Lib.hid (fun y hy => by
         rw [List.take_add_one, HX.out] at hy
         rcases List.mem_append.1 hy with hy | hy
         · exact HA.out y hy
         · simp at hy; subst hy; exact Hb.out), HB1⟩
       case measure => simp [intOf]; omega
     | false =>
       go_wp2_with fail
       go_ret
       exact ⟨.inr ⟨k, rfl, by have := HN.out; omega, HA.out, fun y hy => by rw [HX.out] at hy; injection hy with hy; subst hy; exact Hb.out⟩, HB1.out⟩
   · obtain rfl : k = n := by omega
     go_wp2_with fail
     go_ret
     exact ⟨.inl ⟨rfl, fun x hx => HA.out x (by rw [← HN.out, List.take_length]; exact hx)⟩, HB.out⟩

theorem only_setCells (g : Nat) : ∀ (vs : List Value) (o : Nat) (a w : World), a.grownBy w (some g) → a.grownBy (w.setCells g o vs) (some g)
 | [], _, _, _, h => h
 | v :: r, o, a, _, h => only_setCells g r (o + 1) a _ (only_setCell (p := ⟨g, o, none⟩) h (.inl rfl) v)
theorem run_clear {w : World} {g o n c : Nat} {cur : Array Value} {t : TypeId} (hb : Blk w g t cur) (hn : 0 < n) (hf : o + n * 2 ≤ cur.size) (ty : TypeId) :
   ∃ w', (Builtin.clear_ #[184] ty #[.slice (some ⟨g, o, none⟩) n c]).run Tryz.prog w = .ok (.tuple #[]) w' ∧ w.grownBy w' (some g) ∧ ∀ k, k < o → w'.cell? ⟨g, k, none⟩ = w.cell? ⟨g, k, none⟩ := by
 have hz : ∀ w, (zeroValue 188).run Tryz.prog w = .ok (.agg #[.int .i64 0, .string .empty]) w := fun w => by kernel_rfl
 have hzs : ((.agg #[.int .i64 0, .string .empty] : Value).cells) = #[.int .i64 0, .string .empty] := rfl
 have hlen : (Builtin.zeroCells #[.int .i64 0, .string .empty] n).toList.length = n * 2 := by simp [Builtin.zeroCells]
 have hone : ∀ v ∈ (Builtin.zeroCells #[.int .i64 0, .string .empty] n).toList, v.oneCell' = true := by
   intro v hv
   simp only [Builtin.zeroCells, Array.toList_map, List.mem_map] at hv
   obtain ⟨i, _, rfl⟩ := hv
   have : i % 2 = 0 ∨ i % 2 = 1 := by omega
   rcases this with h | h
   · simp [h]; rfl
   · simp [h]; rfl
 have hst := run_storeCells_cells (P := Tryz.prog) g o (Builtin.zeroCells #[.int .i64 0, .string .empty] n).toList 0 w (fun j hj => by
   rw [hb.cell, Array.getElem?_eq_getElem (by rw [hlen] at hj; omega)]; rfl) (fun j hj => hb.frozen _) hone
 simp only [Nat.add_zero] at hst
 obtain ⟨m, rfl⟩ : ∃ m, n = m + 1 := ⟨n - 1, by omega⟩
 refine ⟨w.setCells g o (Builtin.zeroCells #[.int .i64 0, .string .empty] (m + 1)).toList, ?_, only_setCells g _ o w w (only_refl w _), fun k hk => ?_⟩
 · simp [Builtin.clear_, run_underlying Tryz.underlying184, hz, hzs, hst]
 · exact World.cell?_setCells_out g _ o w ⟨g, k, none⟩ (fun _ _ => .inl hk)

theorem slice_fromT {A : Addr} (hA : A.spot = none) (n c l : Nat) (w : World) (hl : l < n) (hc : n ≤ c) :
   (Instr.sliceAt 184 (.slice (some A) n c) (some (.int .i64 (l : Int))) none none).run Tryz.prog w = .ok (.slice (some ⟨A.block, A.off + l * 2, none⟩) (n - l) (c - l)) w := by
 obtain ⟨g, o, sp⟩ := A
 subst hA
 have hne : ¬ c = l := by omega
 simp [Instr.sliceAt, Instr.slice, run_underlying Tryz.underlying184, Instr.sliceBounds, run_sliceBound, (by omega : (l : Int) ≤ (n : Int)), hne, add_flat]
theorem slice_toT {A : Option Addr} (n c h : Nat) (w : World) (hh : h ≤ c) :
   (Instr.sliceAt 184 (.slice A n c) none (some (.int .i64 (h : Int))) none).run Tryz.prog w = .ok (.slice A h c) w := by
 simp [Instr.sliceAt, Instr.slice, run_underlying Tryz.underlying184, Instr.sliceBounds, run_sliceBound, (by omega : (h : Int) ≤ (c : Int)), Addr.add]

def AtC (cur : Array Value) (m : Nat) (x : Int × List UInt8) : Prop := cur[m * 2]? = some (.int .i64 x.1) ∧ cur[m * 2 + 1]? = some (.string (str8 x.2))
structure DelAt (w : World) (g cap : Nat) (l : List (Int × List UInt8)) (i j : Nat) (cur : Array Value) (wr : World) : Prop where
 blk : Blk wr g 188 cur
 size : cur.size = cap * 2
 cnt : ((l.take j).filter hostB).length = i
 lo : ∀ m x, ((l.take j).filter hostB)[m]? = some x → AtC cur m x
 hi : ∀ m x, j ≤ m → l[m]? = some x → AtC cur m x
 only : w.grownBy wr (some g)
theorem AtC.set {cur : Array Value} {m i : Nat} {x y : Int × List UInt8} (h : AtC cur m x) (hne : m ≠ i) : AtC ((cur.setIfInBounds (i * 2) (.int .i64 y.1)).setIfInBounds (i * 2 + 1) (.string (str8 y.2))) m x := by
 unfold AtC at h ⊢
 simp only [Array.getElem?_setIfInBounds]
 rw [if_neg (by omega), if_neg (by omega), if_neg (by omega), if_neg (by omega)]
 exact h
theorem AtC.put (cur : Array Value) (i : Nat) (y : Int × List UInt8) (hi : i * 2 + 1 < cur.size) : AtC ((cur.setIfInBounds (i * 2) (.int .i64 y.1)).setIfInBounds (i * 2 + 1) (.string (str8 y.2))) i y := by
 unfold AtC
 simp only [Array.getElem?_setIfInBounds, Array.size_setIfInBounds, if_true]
 rw [if_neg (by omega), if_pos (by omega), if_pos hi]
 exact ⟨rfl, rfl⟩
theorem DelAt.keep {w wr : World} {g cap i j : Nat} {l : List (Int × List UInt8)} {cur : Array Value} (h : DelAt w g cap l i j cur wr) (hij : i < j) {x : Int × List UInt8} (hx : l[j]? = some x) (hb : hostB x = true) (hj : j < cap)
   {w' : World} (hw : Blk w' g 188 cur) (ho : w.grownBy w' (some g)) :
   DelAt w g cap l (i + 1) (j + 1) ((cur.setIfInBounds (i * 2) (.int .i64 x.1)).setIfInBounds (i * 2 + 1) (.string (str8 x.2))) ((w'.setCell ⟨g, i * 2, none⟩ (.int .i64 x.1)).setCell ⟨g, i * 2 + 1, none⟩ (.string (str8 x.2))) := by
 have e : (l.take (j + 1)).filter hostB = (l.take j).filter hostB ++ [x] := by
   rw [List.take_add_one, hx]
   simp [List.filter_append, hb]
 refine ⟨(hw.set_ _ _).set_ _ _, by simp [h.size], by rw [e, List.length_append, h.cnt]; rfl, fun m y hm => ?_, fun m y hm hy => ?_, only_setCell (p := ⟨g, i * 2 + 1, none⟩) (only_setCell (p := ⟨g, i * 2, none⟩) ho (.inl rfl) _) (.inl rfl) _⟩
 · rw [e] at hm
   by_cases hmi : m < i
   · rw [List.getElem?_append_left (by rw [h.cnt]; exact hmi)] at hm
     exact (h.lo m y hm).set (by omega)
   · have hl := (List.getElem?_eq_some_iff.1 hm).1
     rw [List.length_append, h.cnt, List.length_singleton] at hl
     obtain rfl : m = i := by omega
     rw [List.getElem?_append_right (by rw [h.cnt]; exact Nat.le_refl _), h.cnt, Nat.sub_self] at hm
     simp at hm
     subst hm
     exact AtC.put cur m x (by rw [h.size]; omega)
 · exact (h.hi m y (by omega) hy).set (by omega)
theorem DelAt.skip {w wr : World} {g cap i j : Nat} {l : List (Int × List UInt8)} {cur : Array Value} (h : DelAt w g cap l i j cur wr) {x : Int × List UInt8} (hx : l[j]? = some x) (hb : hostB x = false)
   {w' : World} (hw : Blk w' g 188 cur) (ho : w.grownBy w' (some g)) : DelAt w g cap l i (j + 1) cur w' := by
 have e : (l.take (j + 1)).filter hostB = (l.take j).filter hostB := by
   rw [List.take_add_one, hx]
   simp [List.filter_append, hb]
 exact ⟨hw, h.size, by rw [e]; exact h.cnt, fun m y hm => h.lo m y (by rw [e] at hm; exact hm), fun m y hm hy => h.hi m y (by omega) hy, ho⟩

def DelPost (v : Value) (l : List (Int × List UInt8)) (w : World) (e : Ending) (w' : World) : Prop :=
 ∃ A c, e = .returned (.slice A (l.filter hostB).length c) ∧ SrcE w' elT A (l.filter hostB) ∧ w.grownBy w' v.ownBlock

set_option maxRecDepth 100000 in
set_option maxHeartbeats 2000000 in
theorem del_any (v : Value) (B : Nat) (l : List (Int × List UInt8)) (w : World) (ho : OwnE w elT B v l) (hm : l.length ≤ 65535) :
   Calls Tryz.prog 171 #[v, .func (.func 172) #[] #[]] w (DelPost v l w) := by
 have HO := Lib.hid ho
 rcases ho.row with ⟨rfl, rfl⟩ | ⟨g, cap, cur, rfl, hg, hblk, hcap, hmax, hsz, htk⟩
 · clear ho
   go_enter Tryz.func171, Tryz.ntmps171
   go_wp2_with fail
   refine (idx_any none 0 0 [] w (SrcE.nil _ _) rfl (by omega)).mono ?_
   rintro e w1 ⟨⟨rfl, _⟩ | ⟨k, _, hk, _⟩, hb⟩
   · go_wp2_with fail
     go_ret
     exact ⟨none, 0, rfl, SrcE.nil _ _, only_of_below hb _⟩
   · exact absurd hk (Nat.not_lt_zero _)
 · obtain ⟨A', c', hv', _, _, hsrc⟩ := ho.src fineT
   injection hv' with e1 e2 e3
   subst e1 e3
   have HS := Lib.hid hsrc
   have HBk := Lib.hid hblk
   have HSz := Lib.hid hsz
   have HTk := Lib.hid htk
   obtain ⟨n, hn⟩ : ∃ n, l.length = n := ⟨_, rfl⟩
   rw [hn] at hcap hm ⊢
   have HN := Lib.hid hn
   clear ho hsrc hblk hsz htk hn e2
   go_enter Tryz.func171, Tryz.ntmps171
   go_wp2_with fail
   refine (idx_any (some ⟨g, 0, none⟩) n cap l w HS.out HN.out hm).mono ?_
   rintro e w1 ⟨⟨rfl, hall⟩ | ⟨k, rfl, hk, hall, hno⟩, hb⟩
   · have HF := Lib.hid (show l.filter hostB = l from List.filter_eq_self.2 hall)
     clear hall
     go_wp2_with fail
     go_ret
     refine ⟨some ⟨g, 0, none⟩, cap, by rw [HF.out, HN.out]; rfl, by rw [HF.out]; exact HS.out.below hb, only_of_below hb _⟩
   · have hsz := HSz.out
     have HAt0 : Hid (DelAt w g cap l k (k + 1) cur w1) := by
       have ek : (l.take k).filter hostB = l.take k := List.filter_eq_self.2 hall
       obtain ⟨x, hx⟩ : ∃ x, l[k]? = some x := ⟨_, List.getElem?_eq_getElem hk⟩
       have e : (l.take (k + 1)).filter hostB = l.take k := by
         rw [List.take_add_one, hx, List.filter_append, ek]
         simp [hno x hx]
       have hat : ∀ m x, l[m]? = some x → AtC cur m x := fun m x hm => by
         have h1 := flat_at fineT l m x hm 0 _ rfl
         have h2 := flat_at fineT l m x hm 1 _ rfl
         rw [← HTk.out, List.getElem?_take] at h1 h2
         split at h1
         · split at h2
           · exact ⟨by simpa [elT] using h1, by simpa [elT] using h2⟩
           · cases h2
         · cases h1
       refine ⟨HBk.out.below hb HBk.out.lt, HSz.out, by rw [e, List.length_take]; omega, fun m y hm => ?_, fun m y _ hy => hat m y hy, only_of_below hb _⟩
       rw [e, List.getElem?_take] at hm
       split at hm
       · exact hat m y hm
       · cases hm
     have hkn : k < n := by have := HN.out; omega
     have hk1 : ((k : Int) == -1) = false := beq_eq_false_iff_ne.2 (by omega)
     clear hall hno hk hb HTk HBk HS
     go_wp2_with fail
     go_loopw [5, 6] (fun a b wr => ∃ (i j : Nat) (cu : Array Value), a = .int .i64 (i : Int) ∧ b = .int .i64 (j : Int) ∧ i < j ∧ j ≤ n ∧ Hid (DelAt w g cap l i j cu wr)) (fun _ b _ => n - (intOf b).toNat)
     case atStart => exact ⟨k, k + 1, cur, rfl, by go_num, by omega, by omega, HAt0⟩
     case round =>
       clear HAt0
       obtain ⟨i, j, cu, rfl, rfl, hij, hjn, HAt⟩ := hrel
       by_cases hlt : j < n
       · have hji : (j : Int) < (n : Int) := by omega
         obtain ⟨x, hx⟩ : ∃ x, l[j]? = some x := ⟨_, List.getElem?_eq_getElem (by have := HN.out; omega)⟩
         obtain ⟨h0, h1⟩ := HAt.out.hi j x (Nat.le_refl _) hx
         have hc0 : wr.cell? ⟨g, j * 2, none⟩ = some (.int .i64 x.1) := by rw [HAt.out.blk.cell]; exact h0
         have hc1 : wr.cell? ⟨g, j * 2 + 1, none⟩ = some (.string (str8 x.2)) := by rw [HAt.out.blk.cell]; exact h1
         have HX := Lib.hid hx
         clear h0 h1 hx
         go_upto_region 8 with fail
         have HZ1 := Lib.hid (Blk.new wr 188 #[Value.int .i64 x.1, .string (str8 x.2)])
         have hz0 : (wr.alloc (.cells #[Value.int .i64 x.1, .string (str8 x.2)] 188)).cell? ⟨wr.heap.size, 0, none⟩ = some (.int .i64 x.1) := by rw [HZ1.out.cell]; rfl
         have hz1 : (wr.alloc (.cells #[Value.int .i64 x.1, .string (str8 x.2)] 188)).cell? ⟨wr.heap.size, 1, none⟩ = some (.string (str8 x.2)) := by rw [HZ1.out.cell]; rfl
         have HBk := Lib.hid (HAt.out.blk.alloc (.cells #[Value.int .i64 x.1, .string (str8 x.2)] 188))
         have HOn := Lib.hid (only_alloc HAt.out.only (.cells #[Value.int .i64 x.1, .string (str8 x.2)] 188))
         have HCu := Lib.hid HAt.out.size
         clear hc0 hc1
         generalize wr.alloc (.cells #[Value.int .i64 x.1, .string (str8 x.2)] 188) = w2 at *
         generalize wr.heap.size = z at *
         go_wp2_with fail
         refine (other_any x w2).mono ?_
         rintro e w3 ⟨rfl, hb3⟩
         have HBk3 := Lib.hid (HBk.out.below hb3 HBk.out.lt)
         have HOn3 := Lib.hid (only_trans HOn.out (only_of_below hb3 (some g)))
         have HZ3 := Lib.hid (HZ1.out.below hb3 HZ1.out.lt)
         clear hb3 hz0 hz1 HBk HOn HZ1
         obtain ⟨b, hb⟩ : ∃ b, hostB x = b := ⟨_, rfl⟩
         rw [hb]
         have Hb := Lib.hid hb
         clear hb
         cases b with
         | true =>
           have hz0 : w3.cell? ⟨z, 0, none⟩ = some (.int .i64 x.1) := by rw [HZ3.out.cell]; rfl
           have hz1 : w3.cell? ⟨z, 1, none⟩ = some (.string (str8 x.2)) := by rw [HZ3.out.cell]; rfl
           have hf0 := HBk3.out.frozen (i * 2)
           have hf1 := HBk3.out.frozen (i * 2 + 1)
           obtain ⟨u0, hu0⟩ : ∃ u, cu[i * 2]? = some u := ⟨_, Array.getElem?_eq_getElem (by have := HCu.out; omega)⟩
           obtain ⟨u1, hu1⟩ : ∃ u, cu[i * 2 + 1]? = some u := ⟨_, Array.getElem?_eq_getElem (by have := HCu.out; omega)⟩
           have hd0 : w3.cell? ⟨g, i * 2, none⟩ = some u0 := by rw [HBk3.out.cell]; exact hu0
           have hd1 : w3.cell? ⟨g, i * 2 + 1, none⟩ = some u1 := by rw [HBk3.out.cell]; exact hu1
           have HK := Lib.hid (HAt.out.keep hij HX.out Hb.out (by omega) HBk3.out HOn3.out)
           clear hu0 hu1 HCu
           go_wp2_with fail
           go_roundw
           case rel => exact ⟨i + 1, j + 1, _, by go_num, by go_num, by omega, by omega, HK⟩
           case measure => simp [intOf]; omega
         | false =>
           have HK := Lib.hid (HAt.out.skip HX.out Hb.out HBk3.out HOn3.out)
           go_wp2_with fail
           go_roundw
           case rel => exact ⟨i, j + 1, cu, rfl, by go_num, by omega, by omega, HK⟩
           case measure => simp [intOf]; omega
       · obtain rfl : j = n := by omega
         have hin : i < j := hij
         have hs1 := slice_fromT (A := ⟨g, 0, none⟩) rfl j cap i wr hin hcap
         simp only [Nat.zero_add] at hs1
         obtain ⟨w4, hcl, hg4, hc4⟩ := run_clear (o := i * 2) (n := j - i) (c := cap - i) HAt.out.blk (by omega) (by have := HAt.out.size; omega) 0
         have hs2 := slice_toT (A := some ⟨g, 0, none⟩) j cap i w4 (by omega)
         have HF := Lib.hid (show (l.filter hostB).length = i by have := HAt.out.cnt; rwa [← HN.out, List.take_length] at this)
         have HC4 := Lib.hid hc4
         have HG4 := Lib.hid hg4
         have hjn' : ¬ (j : Int) < (j : Int) := by omega
         clear hc4 hg4
         go_wp2_with fail
         go_ret
         refine ⟨some ⟨g, 0, none⟩, cap, by rw [HF.out]; rfl, fun m x hx => ⟨g, 0, rfl, Nat.lt_of_lt_of_le HAt.out.blk.lt HG4.out.size, fun q u hu => ?_⟩, only_trans HAt.out.only HG4.out⟩
         have hml := (List.getElem?_eq_some_iff.1 hx).1
         rw [HF.out] at hml
         have hat := HAt.out.lo m x (by rw [← HN.out, List.take_length]; exact hx)
         rw [Nat.zero_add]
         match q, hu with
         | 0, hu => rw [show m * elT.n + 0 = m * 2 from rfl, HC4.out _ (by omega), HAt.out.blk.cell, hat.1]; exact hu
         | 1, hu => rw [show m * elT.n + 1 = m * 2 + 1 from rfl, HC4.out _ (by omega), HAt.out.blk.cell, hat.2]; exact hu
         | q + 2, hu => simp [elT] at hu
end Go.Proofs.YthfknndjdfofgaaGreatDoor.Ex

/-
 Contracts of package ascii's functions of one rune that Number and Hex reach: isDigit, digit.
-/
namespace Go.Proofs.YthfknndjdfofgaaGreatDoor.Asc
open Go.RowKit Go.Proofs.YthfknndjdfofgaaGreatDoor.Wd

theorem ret_b {a b : Bool} (h : a = b) : Ending.returned (.bool a) = .returned (.bool b) := by rw [h]

theorem isDigit_any (r : Int) (w : World) : Calls Tryz.prog 199 #[.int .i32 r] w fun e w' => e = .returned (.bool (digI r)) ∧ w = w' := by
 by_cases a1 : 48 ≤ r <;> by_cases a2 : r ≤ 57
 all_goals first
   | (exfalso; omega)
   | (go_enter Tryz.func199, Tryz.ntmps199
      go_wp2
      go_ret
      exact ⟨ret_b (by simp [digI] <;> omega), rfl⟩)

theorem digit_none (r : Int) (w : World) (h : hexI r = none) : Calls Tryz.prog 185 #[.int .i32 r] w fun e w' => e = .returned (.tuple #[.int .i64 0, .bool false]) ∧ w = w' := by
 have n1 : ¬ (48 ≤ r ∧ r ≤ 57) := fun k => by rw [hexI, if_pos k] at h; cases h
 have n2 : ¬ (97 ≤ r ∧ r ≤ 102) := fun k => by rw [hexI, if_neg n1, if_pos k] at h; cases h
 have n3 : ¬ (65 ≤ r ∧ r ≤ 70) := fun k => by rw [hexI, if_neg n1, if_neg n2, if_pos k] at h; cases h
 have D := Lib.hid (show digI r = false by simp [digI]; omega)
 clear h
 by_cases a1 : 97 ≤ r <;> by_cases a2 : r ≤ 102 <;> by_cases a3 : 65 ≤ r <;> by_cases a4 : r ≤ 70
 all_goals first
   | (exfalso; omega)
   | (clear n1 n2 n3
      go_enter Tryz.func185, Tryz.ntmps185
      go_wp2_with (go_at_call 199; refine (isDigit_any _ _).mono ?_; rintro e w' ⟨rfl, rfl⟩; rw [D.out])
      go_ret2
      exact ⟨rfl, rfl⟩)

theorem ret_nb {a b : Int} (h : a = b) : Ending.returned (.tuple #[.int .i64 a, .bool true]) = .returned (.tuple #[.int .i64 b, .bool true]) := by rw [h]

theorem digit_some (r d : Int) (w : World) (h : hexI r = some d) : Calls Tryz.prog 185 #[.int .i32 r] w fun e w' => e = .returned (.tuple #[.int .i64 d, .bool true]) ∧ w = w' := by
 by_cases n1 : 48 ≤ r ∧ r ≤ 57
 · have e : d = r - 48 := by rw [hexI, if_pos n1] at h; injection h; omega
   have D := Lib.hid (show digI r = true by simp [digI]; omega)
   obtain ⟨a1, a2⟩ := n1
   clear h
   subst e
   go_enter Tryz.func185, Tryz.ntmps185
   go_wp2_with (go_at_call 199; refine (isDigit_any _ _).mono ?_; rintro e w' ⟨rfl, rfl⟩; rw [D.out])
   go_ret2
   exact ⟨ret_nb (by omega), rfl⟩
 · have D := Lib.hid (show digI r = false by simp [digI]; omega)
   by_cases n2 : 97 ≤ r ∧ r ≤ 102
   · have e : d = r - 87 := by rw [hexI, if_neg n1, if_pos n2] at h; injection h; omega
     obtain ⟨a1, a2⟩ := n2
     clear h n1
     subst e
     go_enter Tryz.func185, Tryz.ntmps185
     go_wp2_with (go_at_call 199; refine (isDigit_any _ _).mono ?_; rintro e w' ⟨rfl, rfl⟩; rw [D.out])
     go_ret2
     exact ⟨ret_nb (by omega), rfl⟩
   · by_cases n3 : 65 ≤ r ∧ r ≤ 70
     · have e : d = r - 55 := by rw [hexI, if_neg n1, if_neg n2, if_pos n3] at h; injection h; omega
       obtain ⟨a1, a2⟩ := n3
       clear h n1 n2
       subst e
       have b : ¬ 97 ≤ r := by omega
       go_enter Tryz.func185, Tryz.ntmps185
       go_wp2_with (go_at_call 199; refine (isDigit_any _ _).mono ?_; rintro e w' ⟨rfl, rfl⟩; rw [D.out])
       go_ret2
       exact ⟨ret_nb (by omega), rfl⟩
     · rw [hexI, if_neg n1, if_neg n2, if_neg n3] at h
       cases h

theorem below_iter (w : World) (s : ByteArray) (pos : Nat) : Below w.heap.size w (w.iter s pos) := (Below.refl _ _).alloc (Nat.le_refl _) _
end Go.Proofs.YthfknndjdfofgaaGreatDoor.Asc

/-
 Contracts of package ascii's functions of one rune: isLetter, isDigit, isSign, isToken, isVisible, isBlank, digit.
-/
namespace Go.Proofs.YthfknndjdfofgaaGreatDoor.Asc
open Go.RowKit Go.Proofs.YthfknndjdfofgaaGreatDoor.Wd


theorem isVisible_any (r : Int) (w : World) : Calls Tryz.prog 147 #[.int .i32 r] w fun e w' => e = .returned (.bool (visI r)) ∧ w = w' := by
 by_cases a1 : 33 ≤ r <;> by_cases a2 : r ≤ 126
 all_goals first
   | (exfalso; omega)
   | (go_enter Tryz.func147, Tryz.ntmps147
      go_wp2
      go_ret
      exact ⟨ret_b (by simp [visI] <;> omega), rfl⟩)




end Go.Proofs.YthfknndjdfofgaaGreatDoor.Asc

/-
 Contracts of package ascii's all, Token and Visible.
-/
namespace Go.Proofs.YthfknndjdfofgaaGreatDoor.Asc
open Go.RowKit Go.Proofs.YthfknndjdfofgaaGreatDoor.Wd

theorem allS_nil (p : Int → Bool) (s : ByteArray) (pos : Nat) (h : ¬ pos < s.size) (hle : pos ≤ s.size) (ht : ((bs s).take pos).all (fun c => p (c.toNat : Int)) = true) :
   (!s.toList.isEmpty) = allS p (bs s) := by
 have e : (bs s).take pos = bs s := List.take_of_length_le (by rw [bs_length]; omega)
 rw [e] at ht
 rw [allS, ht, Bool.and_true]
 rw [Lib.toList_data]
 rfl

theorem allS_no (p : Int → Bool) (s : ByteArray) (pos : Nat) (h : pos < s.size) (hc : p ((s[pos]'h).toNat : Int) = false) : allS p (bs s) = false := by
 rw [allS, Bool.and_eq_false_iff]
 right
 rw [List.all_eq_false]
 exact ⟨s[pos]'h, List.getElem_mem (by rw [bs_length]; exact h), by rw [hc]; simp⟩

theorem take_all (p : Int → Bool) (s : ByteArray) (pos : Nat) (h : pos < s.size) (ht : ((bs s).take pos).all (fun c => p (c.toNat : Int)) = true) (hc : p ((s[pos]'h).toNat : Int) = true) :
   ((bs s).take (pos + 1)).all (fun c => p (c.toNat : Int)) = true := by
 rw [bs_take s pos h, List.all_append, ht]
 simpa using hc

def AllIn (p : Int → Bool) (s : ByteArray) (w w' : World) : Prop := ∃ pos, w' = w.iter s pos ∧ pos ≤ s.size ∧ ((bs s).take pos).all (fun c => p (c.toNat : Int)) = true


set_option maxHeartbeats 1000000 in
theorem all_vis (s : ByteArray) (w : World) :
   Calls Tryz.prog 146 #[.string s, .func (.func 147) #[] #[]] w fun e w' => e = .returned (.bool (allS visI (bs s))) ∧ Below w.heap.size w w' := by
 go_enter Tryz.func146, Tryz.ntmps146
 go_wp2
 go_loopw [6] (fun _ w' => AllIn visI s w w') (fun _ w' => s.size - w'.iterPos w.heap.size)
 case atStart => exact ⟨0, rfl, Nat.zero_le _, rfl⟩
 case round =>
   obtain ⟨pos, rfl, hle, ht⟩ := hrel
   have HT := Lib.hid ht
   clear ht
   by_cases hp : pos < s.size
   · obtain ⟨hr, h1⟩ := at_rune vis_low s pos hp
     have hnx : ∀ ty, (Instr.next (.pointer (some ⟨w.heap.size, 0, none⟩)) true ty).run Tryz.prog (w.iter s pos) = _ := fun ty => run_next_any w s pos ty hp
     cases hc : visI ((s[pos]'hp).toNat : Int)
     · have HC := Lib.hid hc
       rw [hc] at hr
       have HR := Lib.hid hr
       clear hr hc h1
       go_wp2_with (go_at_call 147; refine (isVisible_any _ _).mono ?_; rintro e w' ⟨rfl, rfl⟩; rw [HR.out])
       go_ret
       exact ⟨ret_b (allS_no visI s pos hp HC.out).symm, below_iter _ _ _⟩
     · have h1' := h1 hc
       rw [h1'] at hnx
       have HC := Lib.hid hc
       rw [hc] at hr
       have HR := Lib.hid hr
       clear hr hc h1 h1'
       go_wp2_with (go_at_call 147; refine (isVisible_any _ _).mono ?_; rintro e w' ⟨rfl, rfl⟩; rw [HR.out])
       go_roundw
       case rel => exact ⟨pos + 1, rfl, hp, take_all visI s pos hp HT.out HC.out⟩
       case measure => simp; omega
   · have hnx := fun ty => run_next_end (P := Tryz.prog) w s pos ty hp
     go_wp2
     go_ret
     exact ⟨ret_b (allS_nil visI s pos hp hle HT.out), below_iter _ _ _⟩

theorem visible_any (s : ByteArray) (w : World) :
   Calls Tryz.prog 98 #[.string s] w fun e w' => e = .returned (.bool (allS visI (bs s))) ∧ Below w.heap.size w w' := by
 go_enter Tryz.func98, Tryz.ntmps98
 go_wp2_with (go_at_call 146; refine (all_vis _ _).mono ?_; rintro e w' ⟨rfl, hb⟩)
 go_ret
 exact ⟨rfl, hb⟩
end Go.Proofs.YthfknndjdfofgaaGreatDoor.Asc
