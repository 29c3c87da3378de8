/-
 Contracts of package record's framed and Frame over this seat's translation.
-/
import Derived.Test.YthfknndjdfofgaaGreatDoorR16
import Derived.Test.YthfknndjdfofgaaGreatDoorR01
import Derived.Test.YthfknndjdfofgaaGreatDoorR46
import Derived.Test.YthfknndjdfofgaaGreatDoorR43
import Derived.Test.YthfknndjdfofgaaGreatDoorR47
import Derived.Test.YthfknndjdfofgaaGreatDoorR25
import Derived.Test.YthfknndjdfofgaaGreatDoorR48
import Derived.Test.YthfknndjdfofgaaGreatDoorR44
namespace Go.Proofs.YthfknndjdfofgaaGreatDoor.Rc
open Go.RowKit Go.Proofs.YthfknndjdfofgaaGreatDoor.Wd Go.Proofs.YthfknndjdfofgaaGreatDoor.Be

def withI (n lo hi : Int) : Int := if n < lo then lo else if hi < n then hi else n
def sizeK (size : Int) : Nat := (withI size 1 16384 - 1).toNat
theorem sizeK_eq (size : Int) : withI size 1 16384 = ((sizeK size + 1 : Nat) : Int) ∧ sizeK size + 1 ≤ 16384 := by
 unfold sizeK withI
 split
 · exact ⟨rfl, by decide⟩
 · split
   · exact ⟨rfl, by decide⟩
   · omega
theorem recsN_le (m : Nat) (x : List UInt8) : recsN m x ≤ x.length := by
 unfold recsN
 rcases Nat.eq_zero_or_pos x.length with h | h
 · rw [h, Nat.zero_add, Nat.div_eq_of_lt (by omega)]; exact Nat.le_refl _
 · rw [Nat.div_le_iff_le_mul_add_pred (by omega)]
   have : x.length + m ≤ (m + 1) * x.length + m := by
     rw [Nat.add_mul, Nat.one_mul]
     omega
   exact this
theorem frameS_len (m : Nat) (hm : m + 1 ≤ 16384) (x : List UInt8) : (frameS m x).length = x.length + 5 * recsN m x := (run_frame m hm x.length x 0 (Nat.le_refl _)).2.2
theorem frameS_le (m : Nat) (hm : m + 1 ≤ 16384) (x : List UInt8) : (frameS m x).length ≤ 6 * x.length := by
 have := recsN_le m x
 rw [frameS_len m hm x]
 omega
end Go.Proofs.YthfknndjdfofgaaGreatDoor.Rc

/-
 Contracts of the document's own All and Frame of layer 7 (hagioscoperef07).
-/
namespace Go.Proofs.YthfknndjdfofgaaGreatDoor.Rc
open Go.RowKit Go.Proofs.YthfknndjdfofgaaGreatDoor.Wd Go.Proofs.YthfknndjdfofgaaGreatDoor.Be


theorem size_minmax (size M : Int) (h : M = if (16384 : Int) < size then 16384 else size) : withI size 1 16384 = if (1 : Int) < M then M else 1 := by
 subst h
 unfold withI
 repeat' split
 all_goals omega
theorem hdr_src (w : World) (k : Nat) (h : k ≤ 16384) :
   Src (w.alloc (.cells #[.int .u8 22, .int .u8 3, .int .u8 1, .int .u8 ((k : Int) / 256), .int .u8 ((k : Int) % 256)] 5)) (some ⟨w.heap.size, 0, none⟩) 5 (hdrS k) := by
 have h1 : (k : Int) / 256 = ((UInt8.ofNat (k / 256)).toNat : Int) := by rw [UInt8.toNat_ofNat']; omega
 have h2 : (k : Int) % 256 = ((UInt8.ofNat (k % 256)).toNat : Int) := by rw [UInt8.toNat_ofNat']; omega
 rw [h1, h2]
 exact Src.marked w _ _ _ (hdrS k) rfl
theorem min_n (n t q h : Nat) (hh : h = min n (t + q)) : (h : Int) = if (t : Int) + (q : Int) < (n : Int) then (t : Int) + (q : Int) else (n : Int) := by
 split <;> omega
theorem frame_here (m q t n h j : Nat) (xs : List UInt8) (hl : xs.length = n) (hq : q = m + 1) (ht : t < n) (hh : h = min n (t + q)) (hj : h - t = j) :
   frameS m (xs.drop t) = hdrS j ++ ((xs.take h).drop t ++ frameS m (xs.drop (t + q))) := by
 have hne : xs.drop t ≠ [] := by
   intro e
   have := congrArg List.length e
   rw [List.length_drop, List.length_nil] at this
   omega
 have e2 : (xs.drop t).take (m + 1) = (xs.take h).drop t := by
   rw [List.drop_take]
   rcases Nat.le_total n (t + q) with h1 | h1
   · rw [List.take_of_length_le (by rw [List.length_drop]; omega), List.take_of_length_le (by rw [List.length_drop]; omega)]
   · have : h - t = m + 1 := by omega
     rw [this]
 rw [frameS_cons m _ hne, e2, List.drop_drop, List.length_drop, hl, hq, List.append_assoc]
 congr 2
 omega

set_option maxRecDepth 100000 in
set_option maxHeartbeats 1000000 in
theorem rframe_any (w : World) (A : Option Addr) (n cap : Nat) (xs : List UInt8) (size : Int) (hs : Src w A n xs) (hc : n ≤ cap) (hn : n ≤ 1000000) :
   Calls Tryz.prog 36 #[.slice A n cap, .int .i64 size] w fun e w' => ∃ v, e = .returned v ∧ Own w' w.heap.size v (frameS (sizeK size) xs) ∧ Below w.heap.size w w' := by
 obtain ⟨hq1, hq2⟩ := sizeK_eq size
 obtain ⟨M1, hM1⟩ : ∃ M : Int, M = if (16384 : Int) < size then 16384 else size := ⟨_, rfl⟩
 have HM1 := Lib.hid hM1
 have hM2 := size_minmax size M1 hM1
 rw [hq1] at hM2
 have hnl := hs.1
 have HS := Lib.hid hs
 have HNL := Lib.hid hnl
 generalize sizeK size = m at *
 have HF := Lib.hid (frameS_le m hq2 xs)
 obtain ⟨q, hq⟩ : ∃ q, q = m + 1 := ⟨_, rfl⟩
 have HQ := Lib.hid hq
 rw [← hq] at hM2 hq2
 have HM2 := Lib.hid hM2
 have hq0 : 1 ≤ q := by omega
 clear hs hnl hq1 hM1 hM2 hq
 go_enter Tryz.func36, Tryz.ntmps36
 go_wp2_with (first
   | (with_reducible refine wpList_min2 (some 10) rfl rfl _ _ _ rfl size 16384 M1 rfl rfl HM1.out ?_)
   | (with_reducible refine wpList_max2 (some 11) rfl rfl _ _ _ rfl 1 M1 (q : Int) rfl rfl HM2.out ?_))
 go_loopw [6, 7] (fun o i wr => ∃ (t : Nat) (out : List UInt8), i = .int .i64 (t : Int) ∧ t ≤ n + 16384 ∧ Hid (Own wr w.heap.size o out) ∧ Hid (frameS m xs = out ++ frameS m (xs.drop t)) ∧ Hid (Below w.heap.size w wr)) (fun _ i _ => n + 16384 - (intOf i).toNat)
 case atStart => exact ⟨0, [], rfl, by omega, ⟨rfl, .inl ⟨rfl, rfl⟩⟩, rfl, Below.refl _ _⟩
 case round =>
   obtain ⟨t, out, rfl, htn, HO, HE, HB⟩ := hrel
   by_cases hlt : t < n
   · have hti : (t : Int) < (n : Int) := by omega
     obtain ⟨h, hh⟩ : ∃ h, h = min n (t + q) := ⟨_, rfl⟩
     obtain ⟨j, hj⟩ : ∃ j, h - t = j := ⟨_, rfl⟩
     have HM3 := Lib.hid (min_n n t q h hh)
     have HC := Lib.hid (frame_here m q t n h j xs HNL.out HQ.out hlt hh hj)
     have hht : t ≤ h ∧ h ≤ n ∧ j ≤ 16384 := by omega
     have hsl := fun w' => slice_mid und8 siz8 A n cap w' t h (by omega) (by omega)
     have HJ := Lib.hid hj
     have HT := Lib.hid (show Src w (slid A cap t) j ((xs.take h).drop t) from by rw [← hj]; exact HS.out.cut hht.1 hht.2.1 hc)
     have HLo := Lib.hid (show out.length + (5 + j) ≤ 140737488355328 from by
       have h1 := HF.out
       rw [HE.out, HC.out, List.length_append, List.length_append, List.length_append, hdrS_length, List.length_drop, List.length_take, HNL.out] at h1
       omega)
     clear hh
     have HOa := Lib.hid (HO.out.alloc (.cells #[.int .u8 22, .int .u8 3, .int .u8 1, .int .u8 ((j : Int) / 256), .int .u8 ((j : Int) % 256)] 5))
     have HSa := Lib.hid (hdr_src wr j hht.2.2)
     have HBa := Lib.hid (show Below w.heap.size w (wr.alloc (.cells #[.int .u8 22, .int .u8 3, .int .u8 1, .int .u8 ((j : Int) / 256), .int .u8 ((j : Int) % 256)] 5)) from HB.out.alloc (by exact HB.out.size) _)
     have HL1 := Lib.hid (show out.length + 5 ≤ 140737488355328 from by have := HLo.out; omega)
     have HL2 := Lib.hid (show (out ++ hdrS j).length + j ≤ 140737488355328 from by have := HLo.out; rw [List.length_append, hdrS_length]; omega)
     clear HO HB
     go_wp2_with (first
       | (with_reducible refine wpList_min2 (some 26) rfl rfl _ _ _ rfl (n : Int) ((t : Int) + (q : Int)) (h : Int) rfl rfl HM3.out ?_)
       | (at_builtin; refine wpList_app rfl (.tmp 28) (.tmp 37) 22 rfl und8 inf8 w.heap.size _ out rfl HOa.out _ 5 5 _ rfl HSa.out HL1.out HBa.out.size ?_; intro v3 w3 HO3 hb3; have HB3 := Lib.hid (HBa.out.trans hb3); have HO3' := Lib.hid HO3; clear HO3 hb3)
       | (at_builtin; refine wpList_app rfl (.tmp 39) (.tmp 40) 22 rfl und8 inf8 w.heap.size _ _ rfl HO3'.out (slid A cap t) j (cap - t) _ rfl (HT.out.below HB3.out) HL2.out HB3.out.size ?_; intro v4 w4 HO4 hb4; have HB4 := Lib.hid (HB3.out.trans hb4)))
     go_roundw
     case rel => exact ⟨t + q, _, by go_num, by omega, HO4, Lib.hid (by rw [HE.out, HC.out]; simp), HB4⟩
     case measure => simp [intOf]; omega
   have hr : xs.drop t = [] := List.drop_eq_nil_of_le (by rw [HNL.out]; omega)
   rw [hr] at HE
   have HE2 := Lib.hid (show frameS m xs = out from by rw [HE.out, frameS_nil, List.append_nil])
   have hti : (n : Int) ≤ (t : Int) := by omega
   clear HE hr
   go_wp2_with fail
   go_ret
   exact ⟨_, rfl, by rw [HE2.out]; exact HO.out, HB.out⟩
end Go.Proofs.YthfknndjdfofgaaGreatDoor.Rc

/-
 Contract of law 15's Bytes over this seat's translation, where name and protocols can be laid.
-/
namespace Go.Proofs.YthfknndjdfofgaaGreatDoor.Tp
open Go.RowKit Go.Proofs.YthfknndjdfofgaaGreatDoor.Wd Go.Proofs.YthfknndjdfofgaaGreatDoor.Be Go.Proofs.YthfknndjdfofgaaGreatDoor.Ro Go.Proofs.YthfknndjdfofgaaGreatDoor.Rc Go.Proofs.YthfknndjdfofgaaGreatDoor.Sh

/-! plain -/
theorem catP_each : ∀ {l : List (List UInt8)} {w : List UInt8}, Ex.catO Ex.putP l = some w → (∀ x ∈ l, x.length ≤ 255) ∧ l.length ≤ w.length
 | [], w, h => ⟨fun _ h => (by cases h), Nat.zero_le _⟩
 | x :: l, w, h => by
   rw [Ex.catO] at h
   cases hp : Ex.putP x with
   | none => rw [hp] at h; cases h
   | some a =>
     rw [hp] at h
     cases hc : Ex.catO Ex.putP l with
     | none => rw [hc] at h; cases h
     | some b =>
       rw [hc] at h
       injection h with h
       subst h
       obtain ⟨h1, h2⟩ := catP_each hc
       have h3 : x.length ≤ 255 ∧ 1 ≤ a.length := by
         unfold Ex.putP at hp
         split at hp
         · cases hp
         · split at hp
           · rename_i hlt
             injection hp with hp
             have := vecB_len 1 x
             rw [hp] at this
             exact ⟨by omega, by omega⟩
           · cases hp
       refine ⟨fun y hy => ?_, by rw [List.length_append, List.length_cons]; omega⟩
       rcases List.mem_cons.1 hy with rfl | hy
       · exact h3.1
       · exact h1 y hy
theorem lay_sum {l : List (List UInt8)} {p : List UInt8} (h : Ex.layS Ex.putP 2 l = some p) : (∀ x ∈ l, x.length ≤ 255) ∧ l.length ≤ p.length ∧ ∀ k ws, Ex.catO Ex.putP (l.take k) = some ws → ws.length ≤ 70000 := by
 unfold Ex.layS at h
 cases hc : Ex.catO Ex.putP l with
 | none => rw [hc] at h; cases h
 | some w =>
   rw [hc] at h
   simp only at h
   split at h
   · cases h
   · split at h
     · rename_i hlt
       injection h with h
       obtain ⟨h1, h2⟩ := catP_each hc
       have hl := vecB_len 2 w
       rw [h] at hl
       refine ⟨h1, by omega, fun k ws hk => ?_⟩
       have e : Ex.catO Ex.putP (l.take k ++ l.drop k) = some w := by rw [List.take_append_drop]; exact hc
       rw [Ex.catO_app, hk] at e
       cases hd : Ex.catO Ex.putP (l.drop k) with
       | none => rw [hd] at e; cases e
       | some b =>
         rw [hd] at e
         injection e with e
         have := congrArg List.length e
         rw [List.length_append] at this
         have e2 : (256 : Nat) ^ 2 = 65536 := rfl
         omega
     · cases h

/-! the hello as it lies in memory -/
def Hb (gc gm : Nat) (xA : Option Addr) (xc : Nat) (xs : List He.Xt) : He.Hv := ⟨771, List.replicate 32 0, none, 0, [], some ⟨gc, 0, none⟩, 1, [4865], some ⟨gm, 0, none⟩, 1, [0], true, xA, xc, xs⟩
theorem Hb.rnd (gc gm : Nat) (xA : Option Addr) (xc : Nat) (xs : List He.Xt) : (Hb gc gm xA xc xs).rnd.length = 32 := rfl
theorem builtHb (gc gm : Nat) : Tryz.prog.built 68 [(0, .int .i64 771), (3, .slice (some ⟨gc, 0, none⟩) 1 1), (4, .slice (some ⟨gm, 0, none⟩) 1 1), (5, .bool true)] = some (Hb gc gm none 0 []).C := by kernel_rfl
theorem go_bdHb {ops : Array Oper} {rest : List Oper} {o : Oper} {a : Act} {w : World} {Q : Exit → Act → World → Prop} {x y : Operand} (z : Int) (gc gm : Nat) (hz : z = 771) (hg : o.guard = none) (ho : o.op = .build 68 #[(0, .const (.int .i64 z)), (3, x), (4, y), (5, .const (.bool true))])
   (hx : a.eval x = .slice (some ⟨gc, 0, none⟩) 1 1) (hy : a.eval y = .slice (some ⟨gm, 0, none⟩) 1 1) (h : wpList Tryz.prog ops Q rest (a.put o.dst (.agg (Hb gc gm none 0 []).C)) w) : wpList Tryz.prog ops Q (o :: rest) a w := by
 subst hz
 have e : Tryz.prog.built 68 ((#[(0, .const (.int .i64 771)), (3, x), (4, y), (5, .const (.bool true))] : Array (Nat × Operand)).map fun (i, x) => (i, a.eval x)).toList = some (Hb gc gm none 0 []).C := by
   simp only [List.map_toArray, List.map_cons, List.map_nil, hx, hy]
   exact builtHb gc gm
 refine wpList_build hg _ _ ho (by rw [e]; rfl) ?_
 rw [e]
 exact h
structure ByAt (w : World) (gc gm g1 : Nat) (A : Option Addr) (n c : Nat) (xs : List He.Xt) (wx : World) : Prop where
 lo : w.heap.size ≤ g1 ∧ gc < g1 ∧ gm < g1
 bc : Blk wx gc 3 #[.int .i64 4865]
 bm : Blk wx gm 5 #[.int .u8 0]
 bh : Blk wx g1 68 (Hb gc gm A c xs).C
 len : xs.length = n
 row : OwnE wx Ex.elX (g1 + 1) (.slice A n c) xs
 oks : ∀ x ∈ xs, x.Ok wx ∧ (0 < x.n → ∀ a, x.A = some a → a.block ≠ g1 ∧ some a.block ≠ (Value.slice A n c).ownBlock)
 bel : Below w.heap.size w wx
section
variable {w : World} {gc gm g1 : Nat} {A : Option Addr} {n c : Nat} {xs : List He.Xt} {wx w' : World}
theorem ByAt.more (h : ByAt w gc gm g1 A n c xs wx) (hb : Below wx.heap.size wx w') : ByAt w gc gm g1 A n c xs w' :=
 ⟨h.lo, h.bc.below hb h.bc.lt, h.bm.below hb h.bm.lt, h.bh.below hb h.bh.lt, h.len, h.row.below hb, fun x hx => ⟨(h.oks x hx).1.below hb, (h.oks x hx).2⟩, h.bel.trans (hb.mono h.bel.size)⟩
theorem ByAt.add (h : ByAt w gc gm g1 A n c xs wx) (x : He.Xt) (hx : x.Ok wx) (hx1 : 0 < x.n → ∀ a, x.A = some a → a.block ≠ g1 ∧ some a.block ≠ (Value.slice A n c).ownBlock)
   {v : Value} (ho : OwnE w' Ex.elX (g1 + 1) v (xs ++ [x])) (hg : wx.grownBy w' (Value.slice A n c).ownBlock) (hn : v.ownBlock = (Value.slice A n c).ownBlock ∨ v.ownBlock = some wx.heap.size) :
   ∃ A' c', v = .slice A' (n + 1) c' ∧ ByAt w gc gm g1 A' (n + 1) c' (xs ++ [x]) (w'.setCell ⟨g1, 37, none⟩ v) := by
 obtain ⟨A', c', rfl, _⟩ := ho.src Ex.fineX
 have hl : (xs ++ [x]).length = n + 1 := by rw [List.length_append, h.len]; rfl
 rw [hl] at ho hn ⊢
 refine ⟨A', c', rfl, ?_⟩
 have hoff : He.OffT wx (Value.slice A n c).ownBlock (· ≠ 70) := h.row.block (T := (· ≠ 70)) (by show ¬ (Ex.elX.ty ≠ _); decide)
 have hbh := h.bh.grown hg (hoff.far h.bh (by decide))
 have hset : w'.grownBy (w'.setCell ⟨g1, 37, none⟩ (.slice A' (n + 1) c')) (some g1) := only_setCell (p := ⟨g1, 37, none⟩) (only_refl w' _) (.inl rfl) _
 have hge : ∀ j, (Value.slice A n c).ownBlock = some j → w.heap.size ≤ j := fun j hj => by have := h.row.ge j hj; have := h.lo; omega
 have hxall : ∀ y ∈ xs ++ [x], y.Ok wx ∧ (0 < y.n → ∀ a, y.A = some a → a.block ≠ g1 ∧ some a.block ≠ (Value.slice A n c).ownBlock) := fun y hy => by
   rcases List.mem_append.1 hy with hy | hy
   · exact h.oks y hy
   · rw [List.mem_singleton] at hy
     subst hy
     exact ⟨hx, hx1⟩
 refine ⟨h.lo, (h.bc.grown hg (hoff.far h.bc (by decide))).grown hset (by have := h.lo; intro e; injection e with e; omega), (h.bm.grown hg (hoff.far h.bm (by decide))).grown hset (by have := h.lo; intro e; injection e with e; omega), ?_, hl, ?_, fun y hy => ?_, ?_⟩
 · have := hbh.set_ 37 (.slice A' (n + 1) c')
   rw [← hl, Ex.C_ext (Hb.rnd _ _ _ _ _)] at this
   rw [← hl]
   exact this
 · refine ho.off hset (fun g e => ?_)
   injection e with e
   subst e
   exact .inr ⟨_, _, hbh, by show ¬ (68 = Ex.elX.ty); decide⟩
 · obtain ⟨k1, k2⟩ := hxall y hy
   have hlt : 0 < y.n → ∀ a, y.A = some a → a.block < wx.heap.size := fun hp a ha => by
     obtain ⟨ad, e, hl, _⟩ := k1.src.2 hp
     rw [ha] at e
     injection e with e
     subst e
     exact hl
   refine ⟨⟨k1.k1, k1.nc, ⟨k1.src.1, fun hp => ?_⟩, k1.small⟩, fun hp a ha => ⟨(k2 hp a ha).1, ?_⟩⟩
   · obtain ⟨ad, e, hl, hcs⟩ := k1.src.2 hp
     obtain ⟨q1, q2⟩ := k2 hp ad e
     refine ⟨ad, e, Nat.lt_of_lt_of_le hl (by have := hg.size; simpa [World.setCell] using this), fun j u hj => ?_⟩
     rw [← hcs j u hj]
     refine World.cell?_of_block ?_
     rw [block_of_add, hset.block ad.block (Nat.lt_of_lt_of_le hl hg.size) (fun e => q1 (Option.some.inj e)), hg.block ad.block hl q2]
   · rcases hn with e | e
     · rw [e]; exact (k2 hp a ha).2
     · rw [e]
       intro e2
       have := hlt hp a ha
       injection e2 with e2
       omega
 · exact (h.bel.grown hg h.bel.size hge).grown hset (Nat.le_trans h.bel.size hg.size) (fun j hj => by injection hj with hj; have := h.lo; omega)
end
theorem wpList_appX1 {ops : Array Oper} {rest : List Oper} {o : Oper} {a : Act} {w : World} {Q : Exit → Act → World → Prop} (hgd : o.guard = none) (s x : Operand)
   (ho : o.op = .call { callee := .builtin .append, args := #[s, x], argTypes := #[66, 66] })
   (B : Nat) (v : Value) (l : List He.Xt) (hs : a.eval s = v) (hown : OwnE w Ex.elX B v l) (A : Option Addr) (c : Nat) (y : He.Xt) (hx : a.eval x = .slice A 1 c) (hsrc : SrcE w Ex.elX A [y])
   (hlen : l.length ≤ 100000) (hB : B ≤ w.heap.size)
   (h : ∀ v' w', Hid (OwnE w' Ex.elX B v' (l ++ [y])) → Hid (w.grownBy w' v.ownBlock) → Hid (v'.ownBlock = v.ownBlock ∨ v'.ownBlock = some w.heap.size) → wpList Tryz.prog ops Q rest (a.put o.dst v') w') : wpList Tryz.prog ops Q (o :: rest) a w := by
 obtain ⟨v', w', hrun, h2, h3, h4⟩ := run_appE Ex.fineX hown (c := c) hsrc (by simp only [List.length_cons, List.length_nil]; omega) (by decide) hB o.type (fun _ _ => hB) (by simp)
 rw [show [y].length = 1 from rfl] at hrun
 refine wpList_plain hgd fun K hK => ?_
 unfold Oper.wp execOp
 simp only [ho, resolve, invoke, builtin, Sem.run_bind, Sem.run_pure, Result.andThen_ok, List.map_toArray, List.map_cons, List.map_nil, hs, hx, hrun]
 exact hK _ _ (h v' w' (Lib.hid h2) (Lib.hid h3) (Lib.hid h4))
theorem ByAt.ok {w : World} {gc gm g1 : Nat} {A : Option Addr} {n c : Nat} {xs : List He.Xt} {wx : World} (h : ByAt w gc gm g1 A n c xs wx) (hn : n ≤ 60) : (Hb gc gm A c xs).Ok wx := by
 obtain ⟨A', c', e, h1, _, h2⟩ := h.row.src Ex.fineX
 injection e with e1 e2 e3
 subst e1 e3
 have hl := h.len
 refine ⟨by show (-9223372036854775808 : Int) ≤ 771 ∧ (771 : Int) ≤ _; omega, rfl, ⟨Nat.le_refl _, Nat.zero_le _⟩, Src.nil _, ⟨Nat.le_refl _, by show 1 ≤ _; omega⟩, fun n hn => ?_, fun k x hk => ?_, ⟨Nat.le_refl _, by show 1 ≤ _; omega⟩, ?_, ⟨h1, by show xs.length ≤ _; omega⟩, Ex.srcX_of h2 (fun x hx => (h.oks x hx).1)⟩
 · have : n = 4865 := by simpa [Hb] using hn
   subst this
   omega
 · cases k with
   | zero =>
     have : x = 4865 := by simpa [Hb] using hk.symm
     subst this
     exact ⟨gc, 0, rfl, h.bc.lt, by rw [h.bc.cell]; rfl⟩
   | succ k => simp [Hb] at hk
 · exact Src.of_blk (xs := [0]) (off := 0) h.bm (fun j c hj => by
     cases j with
     | zero => simp at hj; subst hj; rfl
     | succ j => simp at hj)

theorem be_start {w : World} {gc gm g1 : Nat} {w' : World} (hgc : gc = w.heap.size) (hgm : gm = w.heap.size + 1) (hg1 : g1 = w.heap.size + 1 + 1)
   (hw : w' = ((((w.alloc (.cells #[.int .i64 4865] 3)).alloc (.cells #[.int .u8 0] 5)).alloc (.cells He.Hv.zero.C 68)).setRow g1 (Hb gc gm none 0 []).C)) : ByAt w gc gm g1 none 0 0 [] w' := by
 have lo2 : gc < g1 := by omega
 have lo3 : gm < g1 := by omega
 have BC : Blk (((w.alloc (.cells #[.int .i64 4865] 3)).alloc (.cells #[.int .u8 0] 5)).alloc (.cells He.Hv.zero.C 68)) gc 3 #[.int .i64 4865] := by rw [hgc]; exact ((Blk.new _ _ _).alloc _).alloc _
 have BM : Blk (((w.alloc (.cells #[.int .i64 4865] 3)).alloc (.cells #[.int .u8 0] 5)).alloc (.cells He.Hv.zero.C 68)) gm 5 #[.int .u8 0] := (He.blk_at _ _ _ _ _ (by rw [He.alloc_size]; exact hgm) rfl).alloc _
 have BH : Blk (((w.alloc (.cells #[.int .i64 4865] 3)).alloc (.cells #[.int .u8 0] 5)).alloc (.cells He.Hv.zero.C 68)) g1 68 He.Hv.zero.C := He.blk_at _ _ _ _ _ (by rw [He.alloc_size, He.alloc_size]; exact hg1) rfl
 have BB : Below w.heap.size w (((w.alloc (.cells #[.int .i64 4865] 3)).alloc (.cells #[.int .u8 0] 5)).alloc (.cells He.Hv.zero.C 68)) := (((Below.refl _ _).alloc (Nat.le_refl _) _).alloc (by simp) _).alloc (by simp; omega) _
 subst hw
 exact ⟨⟨by omega, lo2, lo3⟩, He.Blk.row_far BC (by omega) _, He.Blk.row_far BM (by omega) _, He.setRow_blk BH, rfl, OwnE.nil _ _ _, (fun _ h => by cases h), He.setRow_below BB (by omega) _⟩

set_option maxRecDepth 100000 in
set_option maxHeartbeats 4000000 in
theorem bytes_any (s : List UInt8) (A : Option Addr) (n c : Nat) (l : List (List UInt8)) (size : Int) (d p : List UInt8) (w : World) (hs : s.length ≤ 255) (h1 : Ex.layS Ex.putN 2 [s] = some d) (h2 : Ex.layS Ex.putP 2 l = some p) (hd : d.length ≤ 300) (hp : p.length ≤ 2000) (hl : l.length = n) (hS : SrcE w elS A l) :
   Calls Tryz.prog 16 #[.string (str8 s), .slice A n c, .int .i64 size] w fun e w' => ∃ v, e = .returned v ∧ Own w' w.heap.size v (frameS (sizeK size) (wrapS (He.layS (helB d p)))) ∧ Below w.heap.size w w' := by
 obtain ⟨l1, l2, l3⟩ := lay_sum h2
 have HS := Lib.hid hS
 have HL := Lib.hid hl
 have HL1 := Lib.hid l1
 have HL3 := Lib.hid l3
 have H1 := Lib.hid h1
 have H2 := Lib.hid h2
 have hn : n ≤ 2000 := by omega
 obtain ⟨X, hX⟩ : ∃ X, str8 s = X := ⟨_, rfl⟩
 have HX := Lib.hid hX
 rw [hX]
 have HP := Lib.hid (show ∀ w, Calls Tryz.prog 32 #[.string X] w fun e w' => ∃ A n c, e = .returned (.tuple #[.slice A n c, .bool true]) ∧ Src w' A n d ∧ n ≤ c ∧ Below w.heap.size w w' ∧ Ex.NewA w A from fun w => by
   have h := Ex.rpname_new s w (by omega)
   rw [h1, hX] at h
   exact h)
 have HPP := Lib.hid (show ∀ w, SrcE w elS A l → Calls Tryz.prog 33 #[.slice A n c] w fun e w' => ∃ A n c, e = .returned (.tuple #[.slice A n c, .bool true]) ∧ Src w' A n p ∧ n ≤ c ∧ Below w.heap.size w w' ∧ Ex.NewA w A from fun w hw => by
   have h := Ex.rpprotos_sum A n c l w hw hl (by omega) (fun x hx => by have := l1 x hx; omega) l3
   rw [h2] at h
   exact h)
 clear hS hl l1 l3 h1 h2 hX l2
 go_enter Tryz.func16, Tryz.ntmps16
 go_upto_region 2 with (first
   | (refine go_bdHb _ _ _ rfl rfl rfl rfl rfl ?_)
   | (refine He.go_st 68 (He.blk_at _ _ _ _ (w.heap.size + 1 + 1) (by rw [He.alloc_size, He.alloc_size]) rfl) He.infH rfl (He.Hv.size rfl) (He.Hv.one _) rfl rfl rfl rfl ?_))
 rw [← He.zeroC]
 obtain ⟨gc, hgc⟩ : ∃ gc, gc = w.heap.size := ⟨_, rfl⟩
 obtain ⟨gm, hgm⟩ : ∃ gm, gm = w.heap.size + 1 := ⟨_, rfl⟩
 obtain ⟨g1, hg1⟩ : ∃ g1, g1 = w.heap.size + 1 + 1 := ⟨_, rfl⟩
 rw [← hg1, ← hgm, ← hgc]
 obtain ⟨w2, hw2⟩ : ∃ w2, w2 = ((((w.alloc (.cells #[.int .i64 4865] 3)).alloc (.cells #[.int .u8 0] 5)).alloc (.cells He.Hv.zero.C 68)).setRow g1 (Hb gc gm none 0 []).C) := ⟨_, rfl⟩
 rw [← hw2]
 have HA := Lib.hid (be_start hgc hgm hg1 hw2)
 clear hw2 hgc hgm hg1
 go_wp2_with fail
 refine (HP.out w2).mono ?_
 rintro e w3 ⟨A1, n1, c1, rfl, hs1, hc1, hb1, hnew1⟩
 have HA3 := Lib.hid (HA.out.more hb1)
 have HB3 := Lib.hid (HA3.out.bel)
 have hn1 : n1 ≤ 300 := by have := hs1.1; omega
 have HO1 := Lib.hid (show (⟨0, A1, n1, c1, d⟩ : He.Xt).Ok w3 from ⟨by show (-9223372036854775808 : Int) ≤ 0 ∧ (0 : Int) ≤ _; omega, hc1, hs1, by show n1 ≤ _; omega⟩)
 have HN1 := Lib.hid (show ∀ a, A1 = some a → a.block ≠ g1 ∧ some a.block ≠ (Value.slice none 0 0).ownBlock from fun a ha => ⟨by have := hnew1 a ha; have := HA.out.bh.lt; omega, by simp [Value.ownBlock]⟩)
 have hcx : w3.cell? ⟨g1, 37, none⟩ = some (.slice none 0 0) := He.cell_xs HA3.out.bh rfl
 have hsz3 : g1 + 1 ≤ w3.heap.size := HA3.out.bh.lt
 have HA3a := Lib.hid (HA3.out.more ((Below.refl w3.heap.size w3).alloc (Nat.le_refl _) (.cells #[.int .i64 0, .slice A1 n1 c1] 70)))
 have HSr := Lib.hid (SrcE.new Ex.fineX w3 [(⟨0, A1, n1, c1, d⟩ : He.Xt)] #[.int .i64 0, .slice A1 n1 c1] (by rw [Ro.flat_one]; rfl) 70)
 clear hs1 hc1 hb1 hnew1 HA HB3
 go_upto_region 4 with fail
 go_upto_region 5 with (at_builtin; (refine wpList_appX1 rfl (.tmp 26) (.tmp 29) rfl (g1 + 1) (.slice none 0 0) [] rfl HA3a.out.row (some ⟨w3.heap.size, 0, none⟩) 1 ⟨0, A1, n1, c1, d⟩ rfl HSr.out (by simp) (by rw [He.alloc_size]; omega) ?_; intro v4 w4 ho4 hg4 hn4; obtain ⟨A4, c4, rfl, hA4⟩ := HA3a.out.add ⟨0, A1, n1, c1, d⟩ (HO1.out.below ((Below.refl w3.heap.size w3).alloc (Nat.le_refl _) _)) (fun _ => HN1.out) ho4.out hg4.out hn4.out; have hcx4 : w4.cell? ⟨g1, 37, none⟩ = some (.slice none 0 0) := He.cell_xs (HA3a.out.bh.grown hg4.out (by simp [Value.ownBlock])) rfl; have hfz4 : w4.frozen? ⟨g1, 37, none⟩ = false := Blk.frozen (HA3a.out.bh.grown hg4.out (by simp [Value.ownBlock])) 37; have HA4 := Lib.hid hA4; clear hA4 hg4 hn4 ho4))
 generalize w4.setCell ⟨g1, 37, none⟩ (.slice A4 1 c4) = w5 at *
 have hq1 := Lib.hid hn1
 clear hcx hsz3 HSr HA3a HO1 HN1 HA3 hcx4 hfz4 hn1
 go_wp2_with fail
 refine (HPP.out w5 (HS.out.below (HA4.out.bel))).mono ?_
 rintro e w6 ⟨A2, n2, c2, rfl, hs2, hc2, hb2, hnew2⟩
 have HA6 := Lib.hid (HA4.out.more hb2)
 have hn2 : n2 ≤ 2000 := by have := hs2.1; omega
 have HO2 := Lib.hid (show (⟨16, A2, n2, c2, p⟩ : He.Xt).Ok w6 from ⟨by show (-9223372036854775808 : Int) ≤ 16 ∧ (16 : Int) ≤ _; omega, hc2, hs2, by show n2 ≤ _; omega⟩)
 have HN2 := Lib.hid (show ∀ a, A2 = some a → a.block ≠ g1 ∧ some a.block ≠ (Value.slice A4 1 c4).ownBlock from fun a ha => ⟨by have := hnew2 a ha; have := HA4.out.bh.lt; omega, fun e => by
   have h1 := hnew2 a ha
   rcases HA4.out.row.row with ⟨_, e3⟩ | ⟨g', cap, cur, e2, hge, hbk⟩
   · simp at e3
   · have hlt := Blk.lt hbk.1
     rw [e2] at e
     simp [Value.ownBlock] at e
     omega⟩)
 have hcx : w6.cell? ⟨g1, 37, none⟩ = some (.slice A4 1 c4) := He.cell_xs HA6.out.bh rfl
 have hsz6 : g1 + 1 ≤ w6.heap.size := HA6.out.bh.lt
 have HA6a := Lib.hid (HA6.out.more ((Below.refl w6.heap.size w6).alloc (Nat.le_refl _) (.cells #[.int .i64 16, .slice A2 n2 c2] 70)))
 have HSr := Lib.hid (SrcE.new Ex.fineX w6 [(⟨16, A2, n2, c2, p⟩ : He.Xt)] #[.int .i64 16, .slice A2 n2 c2] (by rw [Ro.flat_one]; rfl) 70)
 clear hs2 hc2 hb2 hnew2 HA4
 go_upto_region 7 with fail
 go_upto_region 8 with (at_builtin; (refine wpList_appX1 rfl (.tmp 39) (.tmp 42) rfl (g1 + 1) (.slice A4 1 c4) [⟨0, A1, n1, c1, d⟩] rfl HA6a.out.row (some ⟨w6.heap.size, 0, none⟩) 1 ⟨16, A2, n2, c2, p⟩ rfl HSr.out (by simp) (by rw [He.alloc_size]; omega) ?_; intro v7 w7 ho7 hg7 hn7; obtain ⟨A7, c7, rfl, hA7⟩ := HA6a.out.add ⟨16, A2, n2, c2, p⟩ (HO2.out.below ((Below.refl w6.heap.size w6).alloc (Nat.le_refl _) _)) (fun _ => HN2.out) ho7.out hg7.out hn7.out; have hoff := HA6a.out.row.block (T := (· ≠ 70)) (by show ¬ (Ex.elX.ty ≠ _); decide); have hbh := HA6a.out.bh.grown hg7.out (hoff.far HA6a.out.bh (by decide)); have hcx7 : w7.cell? ⟨g1, 37, none⟩ = some (.slice A4 1 c4) := He.cell_xs hbh rfl; have hfz7 : w7.frozen? ⟨g1, 37, none⟩ = false := Blk.frozen hbh 37; have HA7 := Lib.hid hA7; clear hA7 hg7 hn7 ho7 hoff hbh))
 generalize w7.setCell ⟨g1, 37, none⟩ (.slice A7 2 c7) = w8 at *
 have hq2 := Lib.hid hn2
 clear hcx hsz6 HSr HA6a HO2 HN2 HA6 hcx7 hfz7 hn2
 obtain ⟨xs, hxs⟩ : ∃ xs, ([] ++ [(⟨0, A1, n1, c1, d⟩ : He.Xt)] ++ [(⟨16, A2, n2, c2, p⟩ : He.Xt)]) = xs := ⟨_, rfl⟩
 rw [hxs] at HA7
 have HH := Lib.hid (show (Hb gc gm A7 c7 xs).hel = helB d p by rw [← hxs]; rfl)
 have HW := Lib.hid (show He.weigh (Hb gc gm A7 c7 xs) ≤ 5000 by rw [← hxs]; simp [He.weigh, He.xsum, Hb]; have := hq1.out; have := hq2.out; omega)
 clear hxs
 go_wp2_with (refine He.go_ld 68 HA7.out.bh He.undH rfl He.infH (He.Hv.size rfl) rfl rfl rfl ?_)
 refine (He.rprint_any _ w8 (HA7.out.ok (by omega)) HW.out (by show xs.length ≤ 60; rw [HA7.out.len]; omega)).mono ?_
 have hpr := (He.print_right (h := helB d p) rfl).2.1 (right_hel d p hd hp)
 rw [HH.out]
 rintro e w9 ⟨A9, n9, c9, rfl, hs9, hb9⟩
 rw [hpr] at hs9 ⊢
 have HB9 := Lib.hid (HA7.out.bel.trans (hb9.mono HA7.out.bel.size))
 have HS9 := Lib.hid hs9
 have hn9 : n9 ≤ 16384 := by have := hs9.1; rw [hel_len] at this; omega
 clear hs9 hb9 hpr HA7
 go_wp2_with fail
 refine (rwrap_yes A9 n9 c9 _ w9 HS9.out hn9).mono ?_
 rintro e w10 ⟨v10, rfl, ho10, hb10⟩
 obtain ⟨A10, c10, rfl, hc10, hs10⟩ := Own.src ho10
 have hl10 : (wrapS (He.layS (helB d p))).length = 55 + d.length + p.length := by rw [wrapS_len, hel_len]; omega
 rw [hl10] at hc10 hs10 ⊢
 have HB10 := Lib.hid (HB9.out.trans (hb10.mono HB9.out.size))
 have HS10 := Lib.hid hs10
 obtain ⟨n10, hn10⟩ : ∃ n, 55 + d.length + p.length = n := ⟨_, rfl⟩
 rw [hn10] at HS10 hc10 ⊢
 clear hs10 ho10 hb10 hl10
 go_wp2_with fail
 refine (rframe_any w10 A10 n10 c10 _ size HS10.out hc10 (by omega)).mono ?_
 rintro e w11 ⟨v11, rfl, ho11, hb11⟩
 have HB11 := Lib.hid (HB10.out.trans (hb11.mono HB10.out.size))
 have HO11 := Lib.hid (Own.lower ho11 HB10.out.size)
 clear ho11 hb11
 go_wp2_with fail
 go_ret
 exact ⟨_, rfl, HO11.out, HB11.out⟩
end Go.Proofs.YthfknndjdfofgaaGreatDoor.Tp

/-
 law15's small case over this seat's translation.
-/
namespace Go.Proofs.YthfknndjdfofgaaGreatDoor.Tp
open Go.RowKit Go.Proofs.YthfknndjdfofgaaGreatDoor.Wd Go.Proofs.YthfknndjdfofgaaGreatDoor.Rc Go.Proofs.YthfknndjdfofgaaGreatDoor.Sh

theorem small_d : Ex.layS Ex.putN 2 [[65, 46, 98]] = some [0, 6, 0, 0, 3, 65, 46, 98] := by kernel_rfl
theorem small_p : Ex.layS Ex.putP 2 [[104, 50]] = some [0, 3, 2, 104, 50] := by kernel_rfl
theorem small_n : Nm.normalS [65, 46, 98] = ([97, 46, 98], 0) := by kernel_rfl
theorem small_fs : ∃ (fs : List UInt8) (n k : Nat), frameS (sizeK 20) (wrapS (He.layS (helB [0, 6, 0, 0, 3, 65, 46, 98] [0, 3, 2, 104, 50]))) = fs ∧ fs.length = n ∧ n = k + 1 ∧ n ≤ 100000 ∧ (∃ d m, allT fs = ⟨d, m, 1, n, 0, [97, 46, 98], ⟨true, [65, 46, 98], [[104, 50]], [], false⟩⟩) ∧ ∃ d m, allT (fs.take k) = ⟨d, m, 0, k, 0, [], Ex.Sn.zero⟩ := by
 have hk := (Rc.sizeK_eq 20).2
 obtain ⟨e, m, h⟩ := sizes_known small_d small_p (by decide) (by decide) (Rc.sizeK 20) hk
 rw [small_n, if_neg (by simp)] at h
 have hl := Rc.frameS_le (Rc.sizeK 20) hk (Sh.wrapS (He.layS (helB [0, 6, 0, 0, 3, 65, 46, 98] [0, 3, 2, 104, 50])))
 rw [Sh.wrapS_len, hel_len] at hl
 obtain ⟨fs, hfs⟩ : ∃ fs, frameS (sizeK 20) (wrapS (He.layS (helB [0, 6, 0, 0, 3, 65, 46, 98] [0, 3, 2, 104, 50]))) = fs := ⟨_, rfl⟩
 rw [hfs] at h hl
 have hz : (allT fs).z ≠ 0 := by rw [h]; show 1 ≠ 0; decide
 obtain ⟨h1, h2, h3, _⟩ := known hz
 have hu : (allT fs).u = fs.length := by rw [h]
 rw [hu] at h1 h3
 refine ⟨fs, fs.length, fs.length - 1, hfs, rfl, by omega, ?_, ⟨e, m, h⟩, ?_⟩
 · have : ([0, 6, 0, 0, 3, 65, 46, 98] : List UInt8).length = 8 := rfl
   have : ([0, 3, 2, 104, 50] : List UInt8).length = 5 := rfl
   omega
 · obtain ⟨t, ht⟩ : ∃ t, allT (fs.take (fs.length - 1)) = t := ⟨_, rfl⟩
   have hok := allT_ok (fs.take (fs.length - 1))
   have hu2 := allT_used h3
   rw [ht] at h3 hok hu2
   rw [List.length_take] at hu2
   obtain ⟨hh, hs⟩ := hok.bare (by omega)
   have hr := (hok.op h3).2.2.2
   refine ⟨t.d, t.m, ht.trans ?_⟩
   cases t
   simp only at h3 hu2 hh hs hr ⊢
   subst h3 hh hs hr
   have : min (fs.length - 1) fs.length = fs.length - 1 := by omega
   rw [this] at hu2
   rw [hu2]
theorem small_w : ∃ d m, allT [23, 1] = ⟨d, m, 2, 1, 4, [], Ex.Sn.zero⟩ := ⟨_, _, rfl⟩
theorem small_t : ∃ d m d2 m2, stepT T.st 22 = ⟨d, m, 0, 1, 0, [], Ex.Sn.zero⟩ ∧ stepT ⟨d, m, 0, 1, 0, [], Ex.Sn.zero⟩ 4 = ⟨d2, m2, 2, 2, 5, [], Ex.Sn.zero⟩ ∧ stepT ⟨d2, m2, 2, 2, 5, [], Ex.Sn.zero⟩ 3 = ⟨d2, m2, 2, 2, 5, [], Ex.Sn.zero⟩ ∧ d.n ≤ 10 ∧ d2.n ≤ 10 := ⟨_, _, _, _, rfl, rfl, rfl, by decide, by decide⟩
theorem allP_of {xs : List UInt8} {w : World} {z u : Nat} {r : Int} {h : List UInt8} {s : Ex.Sn} (hT : ∃ d m, allT xs = ⟨d, m, z, u, r, h, s⟩) {e : Ending} {w' : World} (hP : AllP xs w e w') :
   ∃ va vv, e = .returned (.agg (vC (z : Int) 1 (u : Int) r (str8 h) s va vv)) ∧ Ex.RelP w' w.heap.size va s.alpn ∧ Ex.RelV w' w.heap.size vv s.vers ∧ Below w.heap.size w w' := by
 obtain ⟨d, m, hT⟩ := hT
 unfold AllP at hP
 rw [hT] at hP
 exact hP
theorem not_gS {g i : Nat} {S : List Nat} {K : Nat} (h : ∀ j ∈ g :: S, K ≤ j) (hi : i < K) : i ∉ g :: S := fun hm => by have := h i hm; omega

set_option linter.unusedSimpArgs false in
set_option maxRecDepth 100000 in
set_option maxHeartbeats 16000000 in
theorem small_any {B : Nat} (w : World) (hE : Ad.Env B w) : Calls Tryz.prog 8 #[] w fun e w' => e = .returned (.bool true) ∧ Below w.heap.size w w' := by
 obtain ⟨fs, nb, k, hfs, hlen, hnk, hnb, hT1, hT2⟩ := small_fs
 have HE := Lib.hid hE
 have HT1 := Lib.hid hT1
 have HT2 := Lib.hid hT2
 have HFs := Lib.hid hfs
 have HLen := Lib.hid hlen
 have e3 : (nb : Int) - 1 = (k : Int) := by omega
 have ev : ((nb : Int) == (nb : Int)) = true := beq_self_eq_true _
 have ew : ((k : Int) == (k : Int)) = true := beq_self_eq_true _
 have hkb : k ≤ nb := by omega
 have HNK := Lib.hid hnk
 have HS0 := Lib.hid (Ro.SrcE.new Ro.fineS w [[104, 50]] #[.string ⟨#[104, 50]⟩] rfl 9)
 have HL0 : Hid (Below w.heap.size w (w.alloc (.cells #[.string ⟨#[104, 50]⟩] 9))) := Lib.hid ((Below.refl _ _).alloc (Nat.le_refl _) _)
 clear hE hT1 hT2 hfs hlen hnk
 go_enter Tryz.func8, Tryz.ntmps8
 go_wp2_with fail
 generalize w.alloc (.cells #[.string ⟨#[104, 50]⟩] 9) = w1 at *
 refine (bytes_any [65, 46, 98] (some ⟨w.heap.size, 0, none⟩) 1 1 [[104, 50]] 20 [0, 6, 0, 0, 3, 65, 46, 98] [0, 3, 2, 104, 50] w1 (by decide) small_d small_p (by decide) (by decide) rfl HS0.out).mono ?_
 rintro e w2 ⟨v, rfl, ho, hb⟩
 rw [HFs.out] at ho
 obtain ⟨Ab, cb, rfl, hcb, hsb⟩ := Own.src ho
 rw [HLen.out] at hcb hsb ⊢
 have HS2 := Lib.hid hsb
 have HL2 := Lib.hid (HL0.out.trans (hb.mono HL0.out.size))
 clear ho hsb hb HS0 HL0 HFs HLen
 go_wp2_with fail
 refine (all_any (B := B) Ab nb cb fs w2 (HE.out.on HL2.out) HS2.out (by omega)).mono ?_
 rintro e w3 hP
 obtain ⟨va, vv, rfl, hA, hV, hb⟩ := allP_of HT1.out hP
 have HL3 := Lib.hid (HL2.out.trans (hb.mono HL2.out.size))
 have HS3 := Lib.hid (HS2.out.below hb)
 have HA3 := Lib.hid hA
 have HV3 := Lib.hid hV
 clear hP hA hV hb HL2 HS2
 obtain ⟨Av, cv, e1, _, _, hrow⟩ := HA3.out.1.src Ro.fineS
 subst e1
 obtain ⟨ga, oa, hAv, hga, hcr⟩ := hrow 0 [104, 50] rfl
 subst hAv
 have hcr0 : w3.cell? ⟨ga, oa + (0 * 1 + 0), none⟩ = some (.string ⟨#[104, 50]⟩) := hcr 0 _ rfl
 have HCr : Hid (w3.cell? ⟨ga, oa, none⟩ = some (.string ⟨#[104, 50]⟩)) := Lib.hid (by simpa using hcr0)
 clear hcr0
 have hga3 : ga < w3.heap.size := hga
 obtain ⟨Aw, cw, rfl⟩ := Ro.OwnE.form HV3.out.1
 clear hrow hga hcr HA3 HV3
 go_upto_region 3 with (refine He.go_st 31 (Blk.new _ _ _) infV rfl (vC_size _ _ _ _ _ _ _ _) (vC_one _ _ _ _ _ _ _ _ _ _ _ _) rfl rfl rfl rfl ?_)
 obtain ⟨hk, hb⟩ := verd_new w3 (vC (1 : Nat) 1 (nb : Int) 0 (str8 [97, 46, 98]) ⟨true, [65, 46, 98], [[104, 50]], [], false⟩ (.slice (some ⟨ga, oa, none⟩) 1 cv) (.slice Aw 0 cw))
 have HK4 := Lib.hid hk
 have HL4 := Lib.hid (HL3.out.trans (hb.mono HL3.out.size))
 have HS4 := Lib.hid ((HS3.out.below hb).take hkb)
 have HC4 := Lib.hid ((hb.cell (p := ⟨ga, oa, none⟩) hga3).trans HCr.out)
 have hga4 : ga < _ := Nat.lt_of_lt_of_le hga3 hb.size
 clear hk hb HL3 HS3 HCr hga3
 generalize (w3.alloc (.cells #[Value.int .i64 0, .int .i64 0, .int .i64 0, .int .i64 0, .string ⟨#[]⟩, .int .i64 0, .bool false, .string ⟨#[]⟩, .slice none 0 0, .slice none 0 0, .bool false] 31)).setRow w3.heap.size (vC (1 : Nat) 1 (nb : Int) 0 (str8 [97, 46, 98]) ⟨true, [65, 46, 98], [[104, 50]], [], false⟩ (.slice (some ⟨ga, oa, none⟩) 1 cv) (.slice Aw 0 cw)) = w4 at *
 obtain ⟨G1, hg1⟩ : ∃ g, w3.heap.size = g := ⟨_, rfl⟩
 rw [hg1] at HK4
 rw [hg1]
 clear hg1
 have hsl : ∀ w', (Instr.sliceAt 22 (.slice Ab nb cb) none (some (.int .i64 (k : Int))) none).run Tryz.prog w' = .ok (.slice Ab k cb) w' := fun w' => slice_to und8 siz8 Ab nb cb w' k (by omega)
 go_wp2_with fail
 refine (all_any (B := B) Ab k cb (fs.take k) w4 (HE.out.on HL4.out) HS4.out (by omega)).mono ?_
 rintro e w5 hP
 obtain ⟨vb, vu, rfl, hA, hV, hb⟩ := allP_of HT2.out hP
 have HL5 := Lib.hid (HL4.out.trans (hb.mono HL4.out.size))
 have HK5 := Lib.hid (HK4.out.below hb HK4.out.lt)
 have HC5 := Lib.hid ((hb.cell (p := ⟨ga, oa, none⟩) hga4).trans HC4.out)
 have hga5 : ga < w5.heap.size := Nat.lt_of_lt_of_le hga4 hb.size
 obtain ⟨A5, c5, rfl⟩ := Ro.OwnE.form hA.1
 obtain ⟨A6, c6, rfl⟩ := Ro.OwnE.form hV.1
 clear hP hA hV hb HL4 HK4 HC4 HS4 hga4 hsl
 go_upto_region 4 with (refine He.go_st 31 (Blk.new _ _ _) infV rfl (vC_size _ _ _ _ _ _ _ _) (vC_one _ _ _ _ _ _ _ _ _ _ _ _) rfl rfl rfl rfl ?_)
 obtain ⟨hk, hb⟩ := verd_new w5 (vC (0 : Nat) 1 (k : Int) 0 (str8 []) Ex.Sn.zero (.slice A5 Ex.Sn.zero.alpn.length c5) (.slice A6 Ex.Sn.zero.vers.length c6))
 have HJ6 := Lib.hid hk
 have HK6 := Lib.hid (HK5.out.below hb HK5.out.lt)
 have HL6 := Lib.hid (HL5.out.trans (hb.mono HL5.out.size))
 have HC6 := Lib.hid ((hb.cell (p := ⟨ga, oa, none⟩) hga5).trans HC5.out)
 have hga6 : ga < _ := Nat.lt_of_lt_of_le hga5 hb.size
 clear hk hb HL5 HK5 HC5 hga5
 generalize (w5.alloc (.cells #[Value.int .i64 0, .int .i64 0, .int .i64 0, .int .i64 0, .string ⟨#[]⟩, .int .i64 0, .bool false, .string ⟨#[]⟩, .slice none 0 0, .slice none 0 0, .bool false] 31)).setRow w5.heap.size (vC (0 : Nat) 1 (k : Int) 0 (str8 []) Ex.Sn.zero (.slice A5 Ex.Sn.zero.alpn.length c5) (.slice A6 Ex.Sn.zero.vers.length c6)) = w6 at *
 obtain ⟨G2, hg2⟩ : ∃ g, w5.heap.size = g := ⟨_, rfl⟩
 rw [hg2] at HJ6
 rw [hg2]
 clear hg2
 have HSw := Lib.hid (Src.marked w6 #[.int .u8 23, .int .u8 1] 5 (0, 0) [23, 1] rfl)
 have hbw : Below w6.heap.size w6 (w6.alloc (.cells #[.int .u8 23, .int .u8 1] 5)) := (Below.refl _ _).alloc (Nat.le_refl _) _
 have HLw := Lib.hid (HL6.out.trans (hbw.mono HL6.out.size))
 have HJw := Lib.hid (HJ6.out.below hbw HJ6.out.lt)
 have HKw := Lib.hid (HK6.out.below hbw HK6.out.lt)
 have HCw := Lib.hid ((hbw.cell (p := ⟨ga, oa, none⟩) hga6).trans HC6.out)
 have hgaw : ga < _ := Nat.lt_of_lt_of_le hga6 hbw.size
 clear hbw HL6 HJ6 HK6 HC6 hga6
 go_wp2_with fail
 generalize w6.alloc (.cells #[.int .u8 23, .int .u8 1] 5) = w7 at *
 refine (all_any (B := B) (some ⟨w6.heap.size, 0, none⟩) 2 2 [23, 1] w7 (HE.out.on HLw.out) HSw.out (by decide)).mono ?_
 rintro e w8 hP
 obtain ⟨vb, vu, rfl, hA, hV, hb⟩ := allP_of small_w hP
 have HL8 := Lib.hid (HLw.out.trans (hb.mono HLw.out.size))
 have HK8 := Lib.hid (HKw.out.below hb HKw.out.lt)
 have HJ8 := Lib.hid (HJw.out.below hb HJw.out.lt)
 have HC8 := Lib.hid ((hb.cell (p := ⟨ga, oa, none⟩) hgaw).trans HCw.out)
 have hga8 : ga < w8.heap.size := Nat.lt_of_lt_of_le hgaw hb.size
 obtain ⟨A7, c7, rfl⟩ := Ro.OwnE.form hA.1
 obtain ⟨A8, c8, rfl⟩ := Ro.OwnE.form hV.1
 clear hP hA hV hb HLw HKw HJw HCw HSw hgaw
 go_upto_region 5 with (refine He.go_st 31 (Blk.new _ _ _) infV rfl (vC_size _ _ _ _ _ _ _ _) (vC_one _ _ _ _ _ _ _ _ _ _ _ _) rfl rfl rfl rfl ?_)
 obtain ⟨hk, hb⟩ := verd_new w8 (vC (2 : Nat) 1 (1 : Nat) 4 (str8 []) Ex.Sn.zero (.slice A7 Ex.Sn.zero.alpn.length c7) (.slice A8 Ex.Sn.zero.vers.length c8))
 have HI9 := Lib.hid hk
 have HJ9 := Lib.hid (HJ8.out.below hb HJ8.out.lt)
 have HK9 := Lib.hid (HK8.out.below hb HK8.out.lt)
 have HL9 := Lib.hid (HL8.out.trans (hb.mono HL8.out.size))
 have HC9 := Lib.hid ((hb.cell (p := ⟨ga, oa, none⟩) hga8).trans HC8.out)
 have hga9 : ga < _ := Nat.lt_of_lt_of_le hga8 hb.size
 clear hk hb HL8 HJ8 HK8 HC8 hga8
 generalize (w8.alloc (.cells #[Value.int .i64 0, .int .i64 0, .int .i64 0, .int .i64 0, .string ⟨#[]⟩, .int .i64 0, .bool false, .string ⟨#[]⟩, .slice none 0 0, .slice none 0 0, .bool false] 31)).setRow w8.heap.size (vC (2 : Nat) 1 (1 : Nat) 4 (str8 []) Ex.Sn.zero (.slice A7 Ex.Sn.zero.alpn.length c7) (.slice A8 Ex.Sn.zero.vers.length c8)) = w9 at *
 obtain ⟨G3, hg3⟩ : ∃ g, w8.heap.size = g := ⟨_, rfl⟩
 rw [hg3] at HI9
 rw [hg3]
 clear hg3
 go_wp2_with fail
 refine (new_any w9).mono ?_
 rintro e wa ⟨g, S, rfl, hP, hfar, hb⟩
 have HPa := Lib.hid hP
 have HIa := Lib.hid (HI9.out.below hb HI9.out.lt)
 have HJa := Lib.hid (HJ9.out.below hb HJ9.out.lt)
 have HKa := Lib.hid (HK9.out.below hb HK9.out.lt)
 have HLa := Lib.hid (HL9.out.trans (hb.mono HL9.out.size))
 have HCa := Lib.hid ((hb.cell (p := ⟨ga, oa, none⟩) hga9).trans HC9.out)
 have HFar := Lib.hid hfar
 obtain ⟨K0, hK0⟩ : ∃ K, w9.heap.size = K := ⟨_, rfl⟩
 have hB0 : w.heap.size ≤ K0 := by rw [← hK0]; exact HL9.out.size
 have hK0a : K0 ≤ wa.heap.size := by rw [← hK0]; exact hb.size
 have hE0 : B ≤ w.heap.size := HE.out.le
 have hG1 : G1 < K0 := by rw [← hK0]; exact HK9.out.lt
 have hG2 : G2 < K0 := by rw [← hK0]; exact HJ9.out.lt
 have hG3 : G3 < K0 := by rw [← hK0]; exact HI9.out.lt
 rw [hK0] at hga9 HFar
 clear hP hfar hb HI9 HJ9 HK9 HL9 HC9 hK0
 have k8 : wa.cell? ⟨G1, 8, none⟩ = some (.slice (some ⟨ga, oa, none⟩) 1 cv) := by rw [HKa.out.cell]; rfl
 go_wp2_with fail
 clear k8
 obtain ⟨d1, m1, d2, m2, q1, q2, q3, hd1, hd2⟩ := small_t
 have HQ1 := Lib.hid q1
 have HQ2 := Lib.hid q2
 have HQ3 := Lib.hid q3
 clear q1 q2 q3
 refine (take_any (E := B) (HE.out.on HLa.out) (fun i hi => by have := HFar.out i hi; omega) HPa.out (by decide) (by decide) 22).mono ?_
 rw [HQ1.out]
 rintro e wb ⟨S1, _, _, _, rfl, hP, hS, hB, _, _, _⟩
 have HPb := Lib.hid hP
 have hn1 := not_gS (i := G1) HFar.out hG1
 have hn2 := not_gS (i := G2) HFar.out hG2
 have hn3 := not_gS (i := G3) HFar.out hG3
 have hna := not_gS (i := ga) HFar.out hga9
 have HKb := Lib.hid (HKa.out.but hB hn1)
 have HJb := Lib.hid (HJa.out.but hB hn2)
 have HIb := Lib.hid (HIa.out.but hB hn3)
 have HCb := Lib.hid ((hB.cell (p := ⟨ga, oa, none⟩) (by show ga < _; omega) hna).trans HCa.out)
 have HLb := Lib.hid (HLa.out.trans (hB.below (fun i hi => Nat.le_trans hB0 (HFar.out i hi)) (Nat.le_trans hB0 hK0a)))
 have hK0b : K0 ≤ wb.heap.size := Nat.le_trans hK0a hB.size
 have HFar2 := Lib.hid (show ∀ i ∈ g :: S1, K0 ≤ i from fun i hi => by
   rcases List.mem_cons.1 hi with hi | hi
   · rw [hi]; exact HFar.out g (by simp)
   · rcases hS i hi with h | h
     · exact HFar.out i (List.mem_cons_of_mem _ h)
     · omega)
 clear hP hS hB hn1 hn2 hn3 hna HPa HKa HJa HIa HCa HLa HFar hK0a
 go_wp2_with fail
 refine (take_any (E := B) (HE.out.on HLb.out) (fun i hi => by have := HFar2.out i hi; omega) HPb.out (by show d1.n ≤ _; omega) (by show 1 ≤ 4611686018427387904; decide) 4).mono ?_
 rw [HQ2.out]
 rintro e wc ⟨S2, Kc, vb, vu, rfl, hP, hS, hB, hKc, hA, hV⟩
 have HFar := HFar2
 clear HFar2
 have HPc := Lib.hid hP
 have hn1 := not_gS (i := G1) HFar.out hG1
 have hn2 := not_gS (i := G2) HFar.out hG2
 have hn3 := not_gS (i := G3) HFar.out hG3
 have hna := not_gS (i := ga) HFar.out hga9
 have HKc := Lib.hid (HKb.out.but hB hn1)
 have HJc := Lib.hid (HJb.out.but hB hn2)
 have HIc := Lib.hid (HIb.out.but hB hn3)
 have HCc := Lib.hid ((hB.cell (p := ⟨ga, oa, none⟩) (by show ga < _; omega) hna).trans HCb.out)
 have HLc := Lib.hid (HLb.out.trans (hB.below (fun i hi => Nat.le_trans hB0 (HFar.out i hi)) (Nat.le_trans hB0 hK0b)))
 have hK0c : K0 ≤ wc.heap.size := Nat.le_trans hK0b hB.size
 have HFar2 := Lib.hid (show ∀ i ∈ g :: S2, K0 ≤ i from fun i hi => by
   rcases List.mem_cons.1 hi with hi | hi
   · rw [hi]; exact HFar.out g (by simp)
   · rcases hS i hi with h | h
     · exact HFar.out i (List.mem_cons_of_mem _ h)
     · omega)
 obtain ⟨A9, c9, rfl⟩ := Ro.OwnE.form hA.1
 obtain ⟨Aa, ca, rfl⟩ := Ro.OwnE.form hV.1
 clear hP hS hB hn1 hn2 hn3 hna HPb HKb HJb HIb HCb HLb HFar hK0b hA hV hKc
 go_upto_region 10 with (refine He.go_st 31 (Blk.new _ _ _) infV rfl (vC_size _ _ _ _ _ _ _ _) (vC_one _ _ _ _ _ _ _ _ _ _ _ _) rfl rfl rfl rfl ?_)
 obtain ⟨hk, hb⟩ := verd_new wc (vC (2 : Nat) 1 (2 : Nat) 5 (str8 []) Ex.Sn.zero (.slice A9 Ex.Sn.zero.alpn.length c9) (.slice Aa Ex.Sn.zero.vers.length ca))
 have HYd := Lib.hid hk
 have HId := Lib.hid (HIc.out.below hb HIc.out.lt)
 have HJd := Lib.hid (HJc.out.below hb HJc.out.lt)
 have HKd := Lib.hid (HKc.out.below hb HKc.out.lt)
 have HPd := Lib.hid (HPc.out.below hb)
 have HLd := Lib.hid (HLc.out.trans (hb.mono (Nat.le_trans hB0 hK0c)))
 have HCd := Lib.hid ((hb.cell (p := ⟨ga, oa, none⟩) (by show ga < _; omega)).trans HCc.out)
 have hK0d : K0 ≤ _ := Nat.le_trans hK0c hb.size
 have hny : ∀ j ∈ g :: S2, j ≠ wc.heap.size := fun j hj => by
   rcases List.mem_cons.1 hj with hj | hj
   · have := HPc.out.lt; omega
   · have := HPc.out.lts j hj; omega
 clear hk hb HIc HJc HKc HPc HLc HCc hK0c
 generalize (wc.alloc (.cells #[Value.int .i64 0, .int .i64 0, .int .i64 0, .int .i64 0, .string ⟨#[]⟩, .int .i64 0, .bool false, .string ⟨#[]⟩, .slice none 0 0, .slice none 0 0, .bool false] 31)).setRow wc.heap.size (vC (2 : Nat) 1 (2 : Nat) 5 (str8 []) Ex.Sn.zero (.slice A9 Ex.Sn.zero.alpn.length c9) (.slice Aa Ex.Sn.zero.vers.length ca)) = wd at *
 obtain ⟨G4, hg4⟩ : ∃ g, wc.heap.size = g := ⟨_, rfl⟩
 rw [hg4] at HYd hny
 rw [hg4]
 clear hg4
 go_wp2_with fail
 refine (take_any (E := B) (HE.out.on HLd.out) (fun i hi => by have := HFar2.out i hi; omega) HPd.out (by show d2.n ≤ _; omega) (by show 2 ≤ 4611686018427387904; decide) 3).mono ?_
 rw [HQ3.out]
 rintro e we ⟨S3, Ke, vb, vu, rfl, hP, hS, hB, hKe, hA, hV⟩
 have HFar := HFar2
 clear HFar2
 have hn4 : G4 ∉ g :: S2 := fun hm => hny _ hm rfl
 have HPe := Lib.hid hP
 have hn1 := not_gS (i := G1) HFar.out hG1
 have hn2 := not_gS (i := G2) HFar.out hG2
 have hn3 := not_gS (i := G3) HFar.out hG3
 have hna := not_gS (i := ga) HFar.out hga9
 have HKe := Lib.hid (HKd.out.but hB hn1)
 have HJe := Lib.hid (HJd.out.but hB hn2)
 have HIe := Lib.hid (HId.out.but hB hn3)
 have HYe := Lib.hid (HYd.out.but hB hn4)
 have HCe := Lib.hid ((hB.cell (p := ⟨ga, oa, none⟩) (by show ga < _; omega) hna).trans HCd.out)
 have HLe := Lib.hid (HLd.out.trans (hB.below (fun i hi => Nat.le_trans hB0 (HFar.out i hi)) (Nat.le_trans hB0 hK0d)))
 have hK0e : K0 ≤ we.heap.size := Nat.le_trans hK0d hB.size
 have HFar2 := Lib.hid (show ∀ i ∈ g :: S3, K0 ≤ i from fun i hi => by
   rcases List.mem_cons.1 hi with hi | hi
   · rw [hi]; exact HFar.out g (by simp)
   · rcases hS i hi with h | h
     · exact HFar.out i (List.mem_cons_of_mem _ h)
     · omega)
 obtain ⟨Ab2, cb2, rfl⟩ := Ro.OwnE.form hA.1
 obtain ⟨Ac2, cc2, rfl⟩ := Ro.OwnE.form hV.1
 clear hP hS hB hn1 hn2 hn3 hn4 hna HPd HKd HJd HId HCd HLd HYd HFar hK0d hA hV hKe hny
 obtain ⟨hk, hb⟩ := verd_new we (vC 2 1 2 5 (str8 []) Ex.Sn.zero (.slice Ab2 Ex.Sn.zero.alpn.length cb2) (.slice Ac2 Ex.Sn.zero.vers.length cc2))
 have HLf := Lib.hid (HLe.out.trans (hb.mono (Nat.le_trans hB0 hK0e)))
 have y3 : ((we.alloc (.cells #[Value.int .i64 0, .int .i64 0, .int .i64 0, .int .i64 0, .string ⟨#[]⟩, .int .i64 0, .bool false, .string ⟨#[]⟩, .slice none 0 0, .slice none 0 0, .bool false] 31)).setRow we.heap.size (vC 2 1 2 5 (str8 []) Ex.Sn.zero (.slice Ab2 Ex.Sn.zero.alpn.length cb2) (.slice Ac2 Ex.Sn.zero.vers.length cc2))).cell? ⟨G4, 3, none⟩ = some (.int .i64 5) := (hb.cell (p := ⟨G4, 3, none⟩) HYe.out.lt).trans (by rw [HYe.out.cell]; rfl)
 have i0 : ((we.alloc (.cells #[Value.int .i64 0, .int .i64 0, .int .i64 0, .int .i64 0, .string ⟨#[]⟩, .int .i64 0, .bool false, .string ⟨#[]⟩, .slice none 0 0, .slice none 0 0, .bool false] 31)).setRow we.heap.size (vC 2 1 2 5 (str8 []) Ex.Sn.zero (.slice Ab2 Ex.Sn.zero.alpn.length cb2) (.slice Ac2 Ex.Sn.zero.vers.length cc2))).cell? ⟨G3, 0, none⟩ = some (.int .i64 2) := (hb.cell (p := ⟨G3, 0, none⟩) HIe.out.lt).trans (by rw [HIe.out.cell]; rfl)
 have i3 : ((we.alloc (.cells #[Value.int .i64 0, .int .i64 0, .int .i64 0, .int .i64 0, .string ⟨#[]⟩, .int .i64 0, .bool false, .string ⟨#[]⟩, .slice none 0 0, .slice none 0 0, .bool false] 31)).setRow we.heap.size (vC 2 1 2 5 (str8 []) Ex.Sn.zero (.slice Ab2 Ex.Sn.zero.alpn.length cb2) (.slice Ac2 Ex.Sn.zero.vers.length cc2))).cell? ⟨G3, 3, none⟩ = some (.int .i64 4) := (hb.cell (p := ⟨G3, 3, none⟩) HIe.out.lt).trans (by rw [HIe.out.cell]; rfl)
 have i2 : ((we.alloc (.cells #[Value.int .i64 0, .int .i64 0, .int .i64 0, .int .i64 0, .string ⟨#[]⟩, .int .i64 0, .bool false, .string ⟨#[]⟩, .slice none 0 0, .slice none 0 0, .bool false] 31)).setRow we.heap.size (vC 2 1 2 5 (str8 []) Ex.Sn.zero (.slice Ab2 Ex.Sn.zero.alpn.length cb2) (.slice Ac2 Ex.Sn.zero.vers.length cc2))).cell? ⟨G3, 2, none⟩ = some (.int .i64 1) := (hb.cell (p := ⟨G3, 2, none⟩) HIe.out.lt).trans (by rw [HIe.out.cell]; rfl)
 have j0 : ((we.alloc (.cells #[Value.int .i64 0, .int .i64 0, .int .i64 0, .int .i64 0, .string ⟨#[]⟩, .int .i64 0, .bool false, .string ⟨#[]⟩, .slice none 0 0, .slice none 0 0, .bool false] 31)).setRow we.heap.size (vC 2 1 2 5 (str8 []) Ex.Sn.zero (.slice Ab2 Ex.Sn.zero.alpn.length cb2) (.slice Ac2 Ex.Sn.zero.vers.length cc2))).cell? ⟨G2, 0, none⟩ = some (.int .i64 0) := (hb.cell (p := ⟨G2, 0, none⟩) HJe.out.lt).trans (by rw [HJe.out.cell]; rfl)
 have j2 : ((we.alloc (.cells #[Value.int .i64 0, .int .i64 0, .int .i64 0, .int .i64 0, .string ⟨#[]⟩, .int .i64 0, .bool false, .string ⟨#[]⟩, .slice none 0 0, .slice none 0 0, .bool false] 31)).setRow we.heap.size (vC 2 1 2 5 (str8 []) Ex.Sn.zero (.slice Ab2 Ex.Sn.zero.alpn.length cb2) (.slice Ac2 Ex.Sn.zero.vers.length cc2))).cell? ⟨G2, 2, none⟩ = some (.int .i64 (k : Int)) := (hb.cell (p := ⟨G2, 2, none⟩) HJe.out.lt).trans (by rw [HJe.out.cell]; rfl)
 have k0 : ((we.alloc (.cells #[Value.int .i64 0, .int .i64 0, .int .i64 0, .int .i64 0, .string ⟨#[]⟩, .int .i64 0, .bool false, .string ⟨#[]⟩, .slice none 0 0, .slice none 0 0, .bool false] 31)).setRow we.heap.size (vC 2 1 2 5 (str8 []) Ex.Sn.zero (.slice Ab2 Ex.Sn.zero.alpn.length cb2) (.slice Ac2 Ex.Sn.zero.vers.length cc2))).cell? ⟨G1, 0, none⟩ = some (.int .i64 1) := (hb.cell (p := ⟨G1, 0, none⟩) HKe.out.lt).trans (by rw [HKe.out.cell]; rfl)
 have k1 : ((we.alloc (.cells #[Value.int .i64 0, .int .i64 0, .int .i64 0, .int .i64 0, .string ⟨#[]⟩, .int .i64 0, .bool false, .string ⟨#[]⟩, .slice none 0 0, .slice none 0 0, .bool false] 31)).setRow we.heap.size (vC 2 1 2 5 (str8 []) Ex.Sn.zero (.slice Ab2 Ex.Sn.zero.alpn.length cb2) (.slice Ac2 Ex.Sn.zero.vers.length cc2))).cell? ⟨G1, 1, none⟩ = some (.int .i64 1) := (hb.cell (p := ⟨G1, 1, none⟩) HKe.out.lt).trans (by rw [HKe.out.cell]; rfl)
 have k2 : ((we.alloc (.cells #[Value.int .i64 0, .int .i64 0, .int .i64 0, .int .i64 0, .string ⟨#[]⟩, .int .i64 0, .bool false, .string ⟨#[]⟩, .slice none 0 0, .slice none 0 0, .bool false] 31)).setRow we.heap.size (vC 2 1 2 5 (str8 []) Ex.Sn.zero (.slice Ab2 Ex.Sn.zero.alpn.length cb2) (.slice Ac2 Ex.Sn.zero.vers.length cc2))).cell? ⟨G1, 2, none⟩ = some (.int .i64 (nb : Int)) := (hb.cell (p := ⟨G1, 2, none⟩) HKe.out.lt).trans (by rw [HKe.out.cell]; rfl)
 have k4 : ((we.alloc (.cells #[Value.int .i64 0, .int .i64 0, .int .i64 0, .int .i64 0, .string ⟨#[]⟩, .int .i64 0, .bool false, .string ⟨#[]⟩, .slice none 0 0, .slice none 0 0, .bool false] 31)).setRow we.heap.size (vC 2 1 2 5 (str8 []) Ex.Sn.zero (.slice Ab2 Ex.Sn.zero.alpn.length cb2) (.slice Ac2 Ex.Sn.zero.vers.length cc2))).cell? ⟨G1, 4, none⟩ = some (.string ⟨#[97, 46, 98]⟩) := (hb.cell (p := ⟨G1, 4, none⟩) HKe.out.lt).trans (by rw [HKe.out.cell]; rfl)
 have k7 : ((we.alloc (.cells #[Value.int .i64 0, .int .i64 0, .int .i64 0, .int .i64 0, .string ⟨#[]⟩, .int .i64 0, .bool false, .string ⟨#[]⟩, .slice none 0 0, .slice none 0 0, .bool false] 31)).setRow we.heap.size (vC 2 1 2 5 (str8 []) Ex.Sn.zero (.slice Ab2 Ex.Sn.zero.alpn.length cb2) (.slice Ac2 Ex.Sn.zero.vers.length cc2))).cell? ⟨G1, 7, none⟩ = some (.string ⟨#[65, 46, 98]⟩) := (hb.cell (p := ⟨G1, 7, none⟩) HKe.out.lt).trans (by rw [HKe.out.cell]; rfl)
 have k8 : ((we.alloc (.cells #[Value.int .i64 0, .int .i64 0, .int .i64 0, .int .i64 0, .string ⟨#[]⟩, .int .i64 0, .bool false, .string ⟨#[]⟩, .slice none 0 0, .slice none 0 0, .bool false] 31)).setRow we.heap.size (vC 2 1 2 5 (str8 []) Ex.Sn.zero (.slice Ab2 Ex.Sn.zero.alpn.length cb2) (.slice Ac2 Ex.Sn.zero.vers.length cc2))).cell? ⟨G1, 8, none⟩ = some (.slice (some ⟨ga, oa, none⟩) 1 cv) := (hb.cell (p := ⟨G1, 8, none⟩) HKe.out.lt).trans (by rw [HKe.out.cell]; rfl)
 have r0 : ((we.alloc (.cells #[Value.int .i64 0, .int .i64 0, .int .i64 0, .int .i64 0, .string ⟨#[]⟩, .int .i64 0, .bool false, .string ⟨#[]⟩, .slice none 0 0, .slice none 0 0, .bool false] 31)).setRow we.heap.size (vC 2 1 2 5 (str8 []) Ex.Sn.zero (.slice Ab2 Ex.Sn.zero.alpn.length cb2) (.slice Ac2 Ex.Sn.zero.vers.length cc2))).cell? ⟨ga, oa, none⟩ = some (.string ⟨#[104, 50]⟩) := (hb.cell (p := ⟨ga, oa, none⟩) (by show ga < _; omega)).trans HCe.out
 have z0 : ((we.alloc (.cells #[Value.int .i64 0, .int .i64 0, .int .i64 0, .int .i64 0, .string ⟨#[]⟩, .int .i64 0, .bool false, .string ⟨#[]⟩, .slice none 0 0, .slice none 0 0, .bool false] 31)).setRow we.heap.size (vC 2 1 2 5 (str8 []) Ex.Sn.zero (.slice Ab2 Ex.Sn.zero.alpn.length cb2) (.slice Ac2 Ex.Sn.zero.vers.length cc2))).cell? ⟨we.heap.size, 0, none⟩ = some (.int .i64 2) := by rw [hk.cell]; rfl
 have z2 : ((we.alloc (.cells #[Value.int .i64 0, .int .i64 0, .int .i64 0, .int .i64 0, .string ⟨#[]⟩, .int .i64 0, .bool false, .string ⟨#[]⟩, .slice none 0 0, .slice none 0 0, .bool false] 31)).setRow we.heap.size (vC 2 1 2 5 (str8 []) Ex.Sn.zero (.slice Ab2 Ex.Sn.zero.alpn.length cb2) (.slice Ac2 Ex.Sn.zero.vers.length cc2))).cell? ⟨we.heap.size, 2, none⟩ = some (.int .i64 2) := by rw [hk.cell]; rfl
 clear hk hb
 go_wp2_with (refine He.go_st 31 (Blk.new _ _ _) infV rfl (vC_size 2 1 2 5 (str8 []) Ex.Sn.zero (.slice Ab2 Ex.Sn.zero.alpn.length cb2) (.slice Ac2 Ex.Sn.zero.vers.length cc2)) (vC_one _ _ _ _ _ _ _ _ _ _ _ _) rfl rfl rfl rfl ?_)
 go_ret
 exact ⟨rfl, HLf.out⟩
end Go.Proofs.YthfknndjdfofgaaGreatDoor.Tp
