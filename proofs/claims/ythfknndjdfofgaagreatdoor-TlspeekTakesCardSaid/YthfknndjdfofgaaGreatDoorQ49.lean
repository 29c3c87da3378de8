/-
 Contract of law 15's Bytes over this seat's translation, where name and protocols can be laid.
-/
import Derived.Test.YthfknndjdfofgaaGreatDoorQ47
import Derived.Test.YthfknndjdfofgaaGreatDoorQ45
import Derived.Test.YthfknndjdfofgaaGreatDoorQ48
import Derived.Test.YthfknndjdfofgaaGreatDoorQ29
namespace Go.Proofs.YthfknndjdfofgaaGreatDoor.Tp
open Go.RowKit Go.Proofs.YthfknndjdfofgaaGreatDoor.Wd Go.Proofs.YthfknndjdfofgaaGreatDoor.Be Go.Proofs.YthfknndjdfofgaaGreatDoor.Ro Go.Proofs.YthfknndjdfofgaaGreatDoor.Rc Go.Proofs.YthfknndjdfofgaaGreatDoor.Sh

/-! plain -/
theorem catP_each : ∀ {l : List (List UInt8)} {w : List UInt8}, Ex.catO Ex.putP l = some w → (∀ x ∈ l, x.length ≤ 255) ∧ l.length ≤ w.length
 | [], w, h => ⟨fun _ h => (by cases h), Nat.zero_le _⟩
 | x :: l, w, h => by
   rw [Ex.catO] at h
   cases hp : Ex.putP x with
   | none => rw [hp] at h; cases h
   | some a =>
     rw [hp] at h
     cases hc : Ex.catO Ex.putP l with
     | none => rw [hc] at h; cases h
     | some b =>
       rw [hc] at h
       injection h with h
       subst h
       obtain ⟨h1, h2⟩ := catP_each hc
       have h3 : x.length ≤ 255 ∧ 1 ≤ a.length := by
         unfold Ex.putP at hp
         split at hp
         · cases hp
         · split at hp
           · rename_i hlt
             injection hp with hp
             have := vecB_len 1 x
             rw [hp] at this
             exact ⟨by omega, by omega⟩
           · cases hp
       refine ⟨fun y hy => ?_, by rw [List.length_append, List.length_cons]; omega⟩
       rcases List.mem_cons.1 hy with rfl | hy
       · exact h3.1
       · exact h1 y hy
theorem lay_sum {l : List (List UInt8)} {p : List UInt8} (h : Ex.layS Ex.putP 2 l = some p) : (∀ x ∈ l, x.length ≤ 255) ∧ l.length ≤ p.length ∧ ∀ k ws, Ex.catO Ex.putP (l.take k) = some ws → ws.length ≤ 70000 := by
 unfold Ex.layS at h
 cases hc : Ex.catO Ex.putP l with
 | none => rw [hc] at h; cases h
 | some w =>
   rw [hc] at h
   simp only at h
   split at h
   · cases h
   · split at h
     · rename_i hlt
       injection h with h
       obtain ⟨h1, h2⟩ := catP_each hc
       have hl := vecB_len 2 w
       rw [h] at hl
       refine ⟨h1, by omega, fun k ws hk => ?_⟩
       have e : Ex.catO Ex.putP (l.take k ++ l.drop k) = some w := by rw [List.take_append_drop]; exact hc
       rw [Ex.catO_app, hk] at e
       cases hd : Ex.catO Ex.putP (l.drop k) with
       | none => rw [hd] at e; cases e
       | some b =>
         rw [hd] at e
         injection e with e
         have := congrArg List.length e
         rw [List.length_append] at this
         have e2 : (256 : Nat) ^ 2 = 65536 := rfl
         omega
     · cases h

/-! the hello as it lies in memory -/
def Hb (gc gm : Nat) (xA : Option Addr) (xc : Nat) (xs : List He.Xt) : He.Hv := ⟨771, List.replicate 32 0, none, 0, [], some ⟨gc, 0, none⟩, 1, [4865], some ⟨gm, 0, none⟩, 1, [0], true, xA, xc, xs⟩
theorem Hb.rnd (gc gm : Nat) (xA : Option Addr) (xc : Nat) (xs : List He.Xt) : (Hb gc gm xA xc xs).rnd.length = 32 := rfl
theorem builtHb (gc gm : Nat) : Tryz.prog.built 68 [(0, .int .i64 771), (3, .slice (some ⟨gc, 0, none⟩) 1 1), (4, .slice (some ⟨gm, 0, none⟩) 1 1), (5, .bool true)] = some (Hb gc gm none 0 []).C := by kernel_rfl
theorem go_bdHb {ops : Array Oper} {rest : List Oper} {o : Oper} {a : Act} {w : World} {Q : Exit → Act → World → Prop} {x y : Operand} (z : Int) (gc gm : Nat) (hz : z = 771) (hg : o.guard = none) (ho : o.op = .build 68 #[(0, .const (.int .i64 z)), (3, x), (4, y), (5, .const (.bool true))])
   (hx : a.eval x = .slice (some ⟨gc, 0, none⟩) 1 1) (hy : a.eval y = .slice (some ⟨gm, 0, none⟩) 1 1) (h : wpList Tryz.prog ops Q rest (a.put o.dst (.agg (Hb gc gm none 0 []).C)) w) : wpList Tryz.prog ops Q (o :: rest) a w := by
 subst hz
 have e : Tryz.prog.built 68 ((#[(0, .const (.int .i64 771)), (3, x), (4, y), (5, .const (.bool true))] : Array (Nat × Operand)).map fun (i, x) => (i, a.eval x)).toList = some (Hb gc gm none 0 []).C := by
   simp only [List.map_toArray, List.map_cons, List.map_nil, hx, hy]
   exact builtHb gc gm
 refine wpList_build hg _ _ ho (by rw [e]; rfl) ?_
 rw [e]
 exact h
structure ByAt (w : World) (gc gm g1 : Nat) (A : Option Addr) (n c : Nat) (xs : List He.Xt) (wx : World) : Prop where
 lo : w.heap.size ≤ g1 ∧ gc < g1 ∧ gm < g1
 bc : Blk wx gc 3 #[.int .i64 4865]
 bm : Blk wx gm 5 #[.int .u8 0]
 bh : Blk wx g1 68 (Hb gc gm A c xs).C
 len : xs.length = n
 row : OwnE wx Ex.elX (g1 + 1) (.slice A n c) xs
 oks : ∀ x ∈ xs, x.Ok wx ∧ (0 < x.n → ∀ a, x.A = some a → a.block ≠ g1 ∧ some a.block ≠ (Value.slice A n c).ownBlock)
 bel : Below w.heap.size w wx
section
variable {w : World} {gc gm g1 : Nat} {A : Option Addr} {n c : Nat} {xs : List He.Xt} {wx w' : World}
theorem ByAt.more (h : ByAt w gc gm g1 A n c xs wx) (hb : Below wx.heap.size wx w') : ByAt w gc gm g1 A n c xs w' :=
 ⟨h.lo, h.bc.below hb h.bc.lt, h.bm.below hb h.bm.lt, h.bh.below hb h.bh.lt, h.len, h.row.below hb, fun x hx => ⟨(h.oks x hx).1.below hb, (h.oks x hx).2⟩, h.bel.trans (hb.mono h.bel.size)⟩
theorem ByAt.add (h : ByAt w gc gm g1 A n c xs wx) (x : He.Xt) (hx : x.Ok wx) (hx1 : 0 < x.n → ∀ a, x.A = some a → a.block ≠ g1 ∧ some a.block ≠ (Value.slice A n c).ownBlock)
   {v : Value} (ho : OwnE w' Ex.elX (g1 + 1) v (xs ++ [x])) (hg : wx.grownBy w' (Value.slice A n c).ownBlock) (hn : v.ownBlock = (Value.slice A n c).ownBlock ∨ v.ownBlock = some wx.heap.size) :
   ∃ A' c', v = .slice A' (n + 1) c' ∧ ByAt w gc gm g1 A' (n + 1) c' (xs ++ [x]) (w'.setCell ⟨g1, 37, none⟩ v) := by
 obtain ⟨A', c', rfl, _⟩ := ho.src Ex.fineX
 have hl : (xs ++ [x]).length = n + 1 := by rw [List.length_append, h.len]; rfl
 rw [hl] at ho hn ⊢
 refine ⟨A', c', rfl, ?_⟩
 have hoff : He.OffT wx (Value.slice A n c).ownBlock (· ≠ 70) := h.row.block (T := (· ≠ 70)) (by show ¬ (Ex.elX.ty ≠ _); decide)
 have hbh := h.bh.grown hg (hoff.far h.bh (by decide))
 have hset : w'.grownBy (w'.setCell ⟨g1, 37, none⟩ (.slice A' (n + 1) c')) (some g1) := only_setCell (p := ⟨g1, 37, none⟩) (only_refl w' _) (.inl rfl) _
 have hge : ∀ j, (Value.slice A n c).ownBlock = some j → w.heap.size ≤ j := fun j hj => by have := h.row.ge j hj; have := h.lo; omega
 have hxall : ∀ y ∈ xs ++ [x], y.Ok wx ∧ (0 < y.n → ∀ a, y.A = some a → a.block ≠ g1 ∧ some a.block ≠ (Value.slice A n c).ownBlock) := fun y hy => by
   rcases List.mem_append.1 hy with hy | hy
   · exact h.oks y hy
   · rw [List.mem_singleton] at hy
     subst hy
     exact ⟨hx, hx1⟩
 refine ⟨h.lo, (h.bc.grown hg (hoff.far h.bc (by decide))).grown hset (by have := h.lo; intro e; injection e with e; omega), (h.bm.grown hg (hoff.far h.bm (by decide))).grown hset (by have := h.lo; intro e; injection e with e; omega), ?_, hl, ?_, fun y hy => ?_, ?_⟩
 · have := hbh.set_ 37 (.slice A' (n + 1) c')
   rw [← hl, Ex.C_ext (Hb.rnd _ _ _ _ _)] at this
   rw [← hl]
   exact this
 · refine ho.off hset (fun g e => ?_)
   injection e with e
   subst e
   exact .inr ⟨_, _, hbh, by show ¬ (68 = Ex.elX.ty); decide⟩
 · obtain ⟨k1, k2⟩ := hxall y hy
   have hlt : 0 < y.n → ∀ a, y.A = some a → a.block < wx.heap.size := fun hp a ha => by
     obtain ⟨ad, e, hl, _⟩ := k1.src.2 hp
     rw [ha] at e
     injection e with e
     subst e
     exact hl
   refine ⟨⟨k1.k1, k1.nc, ⟨k1.src.1, fun hp => ?_⟩, k1.small⟩, fun hp a ha => ⟨(k2 hp a ha).1, ?_⟩⟩
   · obtain ⟨ad, e, hl, hcs⟩ := k1.src.2 hp
     obtain ⟨q1, q2⟩ := k2 hp ad e
     refine ⟨ad, e, Nat.lt_of_lt_of_le hl (by have := hg.size; simpa [World.setCell] using this), fun j u hj => ?_⟩
     rw [← hcs j u hj]
     refine World.cell?_of_block ?_
     rw [block_of_add, hset.block ad.block (Nat.lt_of_lt_of_le hl hg.size) (fun e => q1 (Option.some.inj e)), hg.block ad.block hl q2]
   · rcases hn with e | e
     · rw [e]; exact (k2 hp a ha).2
     · rw [e]
       intro e2
       have := hlt hp a ha
       injection e2 with e2
       omega
 · exact (h.bel.grown hg h.bel.size hge).grown hset (Nat.le_trans h.bel.size hg.size) (fun j hj => by injection hj with hj; have := h.lo; omega)
end
theorem wpList_appX1 {ops : Array Oper} {rest : List Oper} {o : Oper} {a : Act} {w : World} {Q : Exit → Act → World → Prop} (hgd : o.guard = none) (s x : Operand)
   (ho : o.op = .call { callee := .builtin .append, args := #[s, x], argTypes := #[66, 66] })
   (B : Nat) (v : Value) (l : List He.Xt) (hs : a.eval s = v) (hown : OwnE w Ex.elX B v l) (A : Option Addr) (c : Nat) (y : He.Xt) (hx : a.eval x = .slice A 1 c) (hsrc : SrcE w Ex.elX A [y])
   (hlen : l.length ≤ 100000) (hB : B ≤ w.heap.size)
   (h : ∀ v' w', Hid (OwnE w' Ex.elX B v' (l ++ [y])) → Hid (w.grownBy w' v.ownBlock) → Hid (v'.ownBlock = v.ownBlock ∨ v'.ownBlock = some w.heap.size) → wpList Tryz.prog ops Q rest (a.put o.dst v') w') : wpList Tryz.prog ops Q (o :: rest) a w := by
 obtain ⟨v', w', hrun, h2, h3, h4⟩ := run_appE Ex.fineX hown (c := c) hsrc (by simp only [List.length_cons, List.length_nil]; omega) (by decide) hB o.type (fun _ _ => hB) (by simp)
 rw [show [y].length = 1 from rfl] at hrun
 refine wpList_plain hgd fun K hK => ?_
 unfold Oper.wp execOp
 simp only [ho, resolve, invoke, builtin, Sem.run_bind, Sem.run_pure, Result.andThen_ok, List.map_toArray, List.map_cons, List.map_nil, hs, hx, hrun]
 exact hK _ _ (h v' w' (Lib.hid h2) (Lib.hid h3) (Lib.hid h4))
theorem ByAt.ok {w : World} {gc gm g1 : Nat} {A : Option Addr} {n c : Nat} {xs : List He.Xt} {wx : World} (h : ByAt w gc gm g1 A n c xs wx) (hn : n ≤ 60) : (Hb gc gm A c xs).Ok wx := by
 obtain ⟨A', c', e, h1, _, h2⟩ := h.row.src Ex.fineX
 injection e with e1 e2 e3
 subst e1 e3
 have hl := h.len
 refine ⟨by show (-9223372036854775808 : Int) ≤ 771 ∧ (771 : Int) ≤ _; omega, rfl, ⟨Nat.le_refl _, Nat.zero_le _⟩, Src.nil _, ⟨Nat.le_refl _, by show 1 ≤ _; omega⟩, fun n hn => ?_, fun k x hk => ?_, ⟨Nat.le_refl _, by show 1 ≤ _; omega⟩, ?_, ⟨h1, by show xs.length ≤ _; omega⟩, Ex.srcX_of h2 (fun x hx => (h.oks x hx).1)⟩
 · have : n = 4865 := by simpa [Hb] using hn
   subst this
   omega
 · cases k with
   | zero =>
     have : x = 4865 := by simpa [Hb] using hk.symm
     subst this
     exact ⟨gc, 0, rfl, h.bc.lt, by rw [h.bc.cell]; rfl⟩
   | succ k => simp [Hb] at hk
 · exact Src.of_blk (xs := [0]) (off := 0) h.bm (fun j c hj => by
     cases j with
     | zero => simp at hj; subst hj; rfl
     | succ j => simp at hj)

theorem be_start {w : World} {gc gm g1 : Nat} {w' : World} (hgc : gc = w.heap.size) (hgm : gm = w.heap.size + 1) (hg1 : g1 = w.heap.size + 1 + 1)
   (hw : w' = ((((w.alloc (.cells #[.int .i64 4865] 3)).alloc (.cells #[.int .u8 0] 5)).alloc (.cells He.Hv.zero.C 68)).setRow g1 (Hb gc gm none 0 []).C)) : ByAt w gc gm g1 none 0 0 [] w' := by
 have lo2 : gc < g1 := by omega
 have lo3 : gm < g1 := by omega
 have BC : Blk (((w.alloc (.cells #[.int .i64 4865] 3)).alloc (.cells #[.int .u8 0] 5)).alloc (.cells He.Hv.zero.C 68)) gc 3 #[.int .i64 4865] := by rw [hgc]; exact ((Blk.new _ _ _).alloc _).alloc _
 have BM : Blk (((w.alloc (.cells #[.int .i64 4865] 3)).alloc (.cells #[.int .u8 0] 5)).alloc (.cells He.Hv.zero.C 68)) gm 5 #[.int .u8 0] := (He.blk_at _ _ _ _ _ (by rw [He.alloc_size]; exact hgm) rfl).alloc _
 have BH : Blk (((w.alloc (.cells #[.int .i64 4865] 3)).alloc (.cells #[.int .u8 0] 5)).alloc (.cells He.Hv.zero.C 68)) g1 68 He.Hv.zero.C := He.blk_at _ _ _ _ _ (by rw [He.alloc_size, He.alloc_size]; exact hg1) rfl
 have BB : Below w.heap.size w (((w.alloc (.cells #[.int .i64 4865] 3)).alloc (.cells #[.int .u8 0] 5)).alloc (.cells He.Hv.zero.C 68)) := (((Below.refl _ _).alloc (Nat.le_refl _) _).alloc (by simp) _).alloc (by simp; omega) _
 subst hw
 exact ⟨⟨by omega, lo2, lo3⟩, He.Blk.row_far BC (by omega) _, He.Blk.row_far BM (by omega) _, He.setRow_blk BH, rfl, OwnE.nil _ _ _, (fun _ h => by cases h), He.setRow_below BB (by omega) _⟩

set_option maxRecDepth 100000 in
set_option maxHeartbeats 4000000 in
theorem bytes_any (s : List UInt8) (A : Option Addr) (n c : Nat) (l : List (List UInt8)) (size : Int) (d p : List UInt8) (w : World) (hs : s.length ≤ 255) (h1 : Ex.layS Ex.putN 2 [s] = some d) (h2 : Ex.layS Ex.putP 2 l = some p) (hd : d.length ≤ 300) (hp : p.length ≤ 2000) (hl : l.length = n) (hS : SrcE w elS A l) :
   Calls Tryz.prog 16 #[.string (str8 s), .slice A n c, .int .i64 size] w fun e w' => ∃ v, e = .returned v ∧ Own w' w.heap.size v (frameS (sizeK size) (wrapS (He.layS (helB d p)))) ∧ Below w.heap.size w w' := by
 obtain ⟨l1, l2, l3⟩ := lay_sum h2
 have HS := Lib.hid hS
 have HL := Lib.hid hl
 have HL1 := Lib.hid l1
 have HL3 := Lib.hid l3
 have H1 := Lib.hid h1
 have H2 := Lib.hid h2
 have hn : n ≤ 2000 := by omega
 obtain ⟨X, hX⟩ : ∃ X, str8 s = X := ⟨_, rfl⟩
 have HX := Lib.hid hX
 rw [hX]
 have HP := Lib.hid (show ∀ w, Calls Tryz.prog 32 #[.string X] w fun e w' => ∃ A n c, e = .returned (.tuple #[.slice A n c, .bool true]) ∧ Src w' A n d ∧ n ≤ c ∧ Below w.heap.size w w' ∧ Ex.NewA w A from fun w => by
   have h := Ex.rpname_new s w (by omega)
   rw [h1, hX] at h
   exact h)
 have HPP := Lib.hid (show ∀ w, SrcE w elS A l → Calls Tryz.prog 33 #[.slice A n c] w fun e w' => ∃ A n c, e = .returned (.tuple #[.slice A n c, .bool true]) ∧ Src w' A n p ∧ n ≤ c ∧ Below w.heap.size w w' ∧ Ex.NewA w A from fun w hw => by
   have h := Ex.rpprotos_sum A n c l w hw hl (by omega) (fun x hx => by have := l1 x hx; omega) l3
   rw [h2] at h
   exact h)
 clear hS hl l1 l3 h1 h2 hX l2
 go_enter Tryz.func16, Tryz.ntmps16
 go_upto_region 2 with (first
   | (refine go_bdHb _ _ _ rfl rfl rfl rfl rfl ?_)
   | (refine He.go_st 68 (He.blk_at _ _ _ _ (w.heap.size + 1 + 1) (by rw [He.alloc_size, He.alloc_size]) rfl) He.infH rfl (He.Hv.size rfl) (He.Hv.one _) rfl rfl rfl rfl ?_))
 rw [← He.zeroC]
 obtain ⟨gc, hgc⟩ : ∃ gc, gc = w.heap.size := ⟨_, rfl⟩
 obtain ⟨gm, hgm⟩ : ∃ gm, gm = w.heap.size + 1 := ⟨_, rfl⟩
 obtain ⟨g1, hg1⟩ : ∃ g1, g1 = w.heap.size + 1 + 1 := ⟨_, rfl⟩
 rw [← hg1, ← hgm, ← hgc]
 obtain ⟨w2, hw2⟩ : ∃ w2, w2 = ((((w.alloc (.cells #[.int .i64 4865] 3)).alloc (.cells #[.int .u8 0] 5)).alloc (.cells He.Hv.zero.C 68)).setRow g1 (Hb gc gm none 0 []).C) := ⟨_, rfl⟩
 rw [← hw2]
 have HA := Lib.hid (be_start hgc hgm hg1 hw2)
 clear hw2 hgc hgm hg1
 go_wp2_with fail
 refine (HP.out w2).mono ?_
 rintro e w3 ⟨A1, n1, c1, rfl, hs1, hc1, hb1, hnew1⟩
 have HA3 := Lib.hid (HA.out.more hb1)
 have HB3 := Lib.hid (HA3.out.bel)
 have hn1 : n1 ≤ 300 := by have := hs1.1; omega
 have HO1 := Lib.hid (show (⟨0, A1, n1, c1, d⟩ : He.Xt).Ok w3 from ⟨by show (-9223372036854775808 : Int) ≤ 0 ∧ (0 : Int) ≤ _; omega, hc1, hs1, by show n1 ≤ _; omega⟩)
 have HN1 := Lib.hid (show ∀ a, A1 = some a → a.block ≠ g1 ∧ some a.block ≠ (Value.slice none 0 0).ownBlock from fun a ha => ⟨by have := hnew1 a ha; have := HA.out.bh.lt; omega, by simp [Value.ownBlock]⟩)
 have hcx : w3.cell? ⟨g1, 37, none⟩ = some (.slice none 0 0) := He.cell_xs HA3.out.bh rfl
 have hsz3 : g1 + 1 ≤ w3.heap.size := HA3.out.bh.lt
 have HA3a := Lib.hid (HA3.out.more ((Below.refl w3.heap.size w3).alloc (Nat.le_refl _) (.cells #[.int .i64 0, .slice A1 n1 c1] 70)))
 have HSr := Lib.hid (SrcE.new Ex.fineX w3 [(⟨0, A1, n1, c1, d⟩ : He.Xt)] #[.int .i64 0, .slice A1 n1 c1] (by rw [Ro.flat_one]; rfl) 70)
 clear hs1 hc1 hb1 hnew1 HA HB3
 go_upto_region 4 with fail
 go_upto_region 5 with (at_builtin; (refine wpList_appX1 rfl (.tmp 26) (.tmp 29) rfl (g1 + 1) (.slice none 0 0) [] rfl HA3a.out.row (some ⟨w3.heap.size, 0, none⟩) 1 ⟨0, A1, n1, c1, d⟩ rfl HSr.out (by simp) (by rw [He.alloc_size]; omega) ?_; intro v4 w4 ho4 hg4 hn4; obtain ⟨A4, c4, rfl, hA4⟩ := HA3a.out.add ⟨0, A1, n1, c1, d⟩ (HO1.out.below ((Below.refl w3.heap.size w3).alloc (Nat.le_refl _) _)) (fun _ => HN1.out) ho4.out hg4.out hn4.out; have hcx4 : w4.cell? ⟨g1, 37, none⟩ = some (.slice none 0 0) := He.cell_xs (HA3a.out.bh.grown hg4.out (by simp [Value.ownBlock])) rfl; have hfz4 : w4.frozen? ⟨g1, 37, none⟩ = false := Blk.frozen (HA3a.out.bh.grown hg4.out (by simp [Value.ownBlock])) 37; have HA4 := Lib.hid hA4; clear hA4 hg4 hn4 ho4))
 generalize w4.setCell ⟨g1, 37, none⟩ (.slice A4 1 c4) = w5 at *
 have hq1 := Lib.hid hn1
 clear hcx hsz3 HSr HA3a HO1 HN1 HA3 hcx4 hfz4 hn1
 go_wp2_with fail
 refine (HPP.out w5 (HS.out.below (HA4.out.bel))).mono ?_
 rintro e w6 ⟨A2, n2, c2, rfl, hs2, hc2, hb2, hnew2⟩
 have HA6 := Lib.hid (HA4.out.more hb2)
 have hn2 : n2 ≤ 2000 := by have := hs2.1; omega
 have HO2 := Lib.hid (show (⟨16, A2, n2, c2, p⟩ : He.Xt).Ok w6 from ⟨by show (-9223372036854775808 : Int) ≤ 16 ∧ (16 : Int) ≤ _; omega, hc2, hs2, by show n2 ≤ _; omega⟩)
 have HN2 := Lib.hid (show ∀ a, A2 = some a → a.block ≠ g1 ∧ some a.block ≠ (Value.slice A4 1 c4).ownBlock from fun a ha => ⟨by have := hnew2 a ha; have := HA4.out.bh.lt; omega, fun e => by
   have h1 := hnew2 a ha
   rcases HA4.out.row.row with ⟨_, e3⟩ | ⟨g', cap, cur, e2, hge, hbk⟩
   · simp at e3
   · have hlt := Blk.lt hbk.1
     rw [e2] at e
     simp [Value.ownBlock] at e
     omega⟩)
 have hcx : w6.cell? ⟨g1, 37, none⟩ = some (.slice A4 1 c4) := He.cell_xs HA6.out.bh rfl
 have hsz6 : g1 + 1 ≤ w6.heap.size := HA6.out.bh.lt
 have HA6a := Lib.hid (HA6.out.more ((Below.refl w6.heap.size w6).alloc (Nat.le_refl _) (.cells #[.int .i64 16, .slice A2 n2 c2] 70)))
 have HSr := Lib.hid (SrcE.new Ex.fineX w6 [(⟨16, A2, n2, c2, p⟩ : He.Xt)] #[.int .i64 16, .slice A2 n2 c2] (by rw [Ro.flat_one]; rfl) 70)
 clear hs2 hc2 hb2 hnew2 HA4
 go_upto_region 7 with fail
 go_upto_region 8 with (at_builtin; (refine wpList_appX1 rfl (.tmp 39) (.tmp 42) rfl (g1 + 1) (.slice A4 1 c4) [⟨0, A1, n1, c1, d⟩] rfl HA6a.out.row (some ⟨w6.heap.size, 0, none⟩) 1 ⟨16, A2, n2, c2, p⟩ rfl HSr.out (by simp) (by rw [He.alloc_size]; omega) ?_; intro v7 w7 ho7 hg7 hn7; obtain ⟨A7, c7, rfl, hA7⟩ := HA6a.out.add ⟨16, A2, n2, c2, p⟩ (HO2.out.below ((Below.refl w6.heap.size w6).alloc (Nat.le_refl _) _)) (fun _ => HN2.out) ho7.out hg7.out hn7.out; have hoff := HA6a.out.row.block (T := (· ≠ 70)) (by show ¬ (Ex.elX.ty ≠ _); decide); have hbh := HA6a.out.bh.grown hg7.out (hoff.far HA6a.out.bh (by decide)); have hcx7 : w7.cell? ⟨g1, 37, none⟩ = some (.slice A4 1 c4) := He.cell_xs hbh rfl; have hfz7 : w7.frozen? ⟨g1, 37, none⟩ = false := Blk.frozen hbh 37; have HA7 := Lib.hid hA7; clear hA7 hg7 hn7 ho7 hoff hbh))
 generalize w7.setCell ⟨g1, 37, none⟩ (.slice A7 2 c7) = w8 at *
 have hq2 := Lib.hid hn2
 clear hcx hsz6 HSr HA6a HO2 HN2 HA6 hcx7 hfz7 hn2
 obtain ⟨xs, hxs⟩ : ∃ xs, ([] ++ [(⟨0, A1, n1, c1, d⟩ : He.Xt)] ++ [(⟨16, A2, n2, c2, p⟩ : He.Xt)]) = xs := ⟨_, rfl⟩
 rw [hxs] at HA7
 have HH := Lib.hid (show (Hb gc gm A7 c7 xs).hel = helB d p by rw [← hxs]; rfl)
 have HW := Lib.hid (show He.weigh (Hb gc gm A7 c7 xs) ≤ 5000 by rw [← hxs]; simp [He.weigh, He.xsum, Hb]; have := hq1.out; have := hq2.out; omega)
 clear hxs
 go_wp2_with (refine He.go_ld 68 HA7.out.bh He.undH rfl He.infH (He.Hv.size rfl) rfl rfl rfl ?_)
 refine (He.rprint_any _ w8 (HA7.out.ok (by omega)) HW.out (by show xs.length ≤ 60; rw [HA7.out.len]; omega)).mono ?_
 have hpr := (He.print_right (h := helB d p) rfl).2.1 (right_hel d p hd hp)
 rw [HH.out]
 rintro e w9 ⟨A9, n9, c9, rfl, hs9, hb9⟩
 rw [hpr] at hs9 ⊢
 have HB9 := Lib.hid (HA7.out.bel.trans (hb9.mono HA7.out.bel.size))
 have HS9 := Lib.hid hs9
 have hn9 : n9 ≤ 16384 := by have := hs9.1; rw [hel_len] at this; omega
 clear hs9 hb9 hpr HA7
 go_wp2_with fail
 refine (rwrap_yes A9 n9 c9 _ w9 HS9.out hn9).mono ?_
 rintro e w10 ⟨v10, rfl, ho10, hb10⟩
 obtain ⟨A10, c10, rfl, hc10, hs10⟩ := Own.src ho10
 have hl10 : (wrapS (He.layS (helB d p))).length = 55 + d.length + p.length := by rw [wrapS_len, hel_len]; omega
 rw [hl10] at hc10 hs10 ⊢
 have HB10 := Lib.hid (HB9.out.trans (hb10.mono HB9.out.size))
 have HS10 := Lib.hid hs10
 obtain ⟨n10, hn10⟩ : ∃ n, 55 + d.length + p.length = n := ⟨_, rfl⟩
 rw [hn10] at HS10 hc10 ⊢
 clear hs10 ho10 hb10 hl10
 go_wp2_with fail
 refine (rframe_any w10 A10 n10 c10 _ size HS10.out hc10 (by omega)).mono ?_
 rintro e w11 ⟨v11, rfl, ho11, hb11⟩
 have HB11 := Lib.hid (HB10.out.trans (hb11.mono HB10.out.size))
 have HO11 := Lib.hid (Own.lower ho11 HB10.out.size)
 clear ho11 hb11
 go_wp2_with fail
 go_ret
 exact ⟨_, rfl, HO11.out, HB11.out⟩
end Go.Proofs.YthfknndjdfofgaaGreatDoor.Tp
