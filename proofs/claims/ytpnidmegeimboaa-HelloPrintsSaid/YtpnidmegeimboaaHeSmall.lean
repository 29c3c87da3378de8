/-
  The small case of the layer's statements, over this seat's translation.
-/
import Derived.Test.YtpnidmegeimboaaHeSmallP
namespace Go.Proofs.Ytpnidmegeimboaa.He
open Go.RowKit Go.Proofs.Ytpnidmegeimboaa.Wd Go.Proofs.Ytpnidmegeimboaa.Be

/-- a hello that an answer gave is laid into a variable -/
theorem laid_new {w : World} {H : Hv} (h : HOwn w H) : HAt ((w.alloc (.cells Hv.zero.C 28)).setRow w.heap.size H.C) w.heap.size H ∧ Below w.heap.size w ((w.alloc (.cells Hv.zero.C 28)).setRow w.heap.size H.C) :=
  ⟨⟨setRow_blk (Blk.new w 28 Hv.zero.C), zero_row (h.below ((Below.refl _ _).alloc (Nat.le_refl _) (.cells Hv.zero.C 28))) (Blk.new w 28 Hv.zero.C) (by unfold TW; decide) H.C⟩,
    setRow_below ((Below.refl _ _).alloc (Nat.le_refl _) _) (Nat.le_refl _) _⟩
theorem parse_of {xs : List UInt8} {w : World} {e : Ending} {w' : World} {h : Hel} {z : Int} (hp : parseS xs = (h, z)) (hq : ParsePost xs w e w') : ∃ H, e = .returned (.tuple #[.agg H.C, .int .i64 z]) ∧ HOwn w' H ∧ H.hel = h ∧ Below w.heap.size w w' := by
  obtain ⟨H, h1, h2, h3, h4⟩ := hq
  rw [hp] at h1 h3
  exact ⟨H, h1, h2, h3, h4⟩
theorem parse_ofE {xs : List UInt8} {w : World} {e : Ending} {w' : World} {z : Int} (hp : (parseS xs).2 = z) (hq : ParsePost xs w e w') : ∃ H, e = .returned (.tuple #[.agg H.C, .int .i64 z]) ∧ HOwn w' H ∧ Below w.heap.size w w' := by
  obtain ⟨H, h1, h2, _, h4⟩ := hq
  rw [hp] at h1
  exact ⟨H, h1, h2, h4⟩
theorem print_of {h : Hel} {w : World} {e : Ending} {w' : World} {b : List UInt8} {n : Nat} (hp : printS h = (b, true)) (hn : b.length = n) (hq : PrintPost h w e w') : ∃ p c, e = .returned (.tuple #[.slice (ad p) n c, .bool true]) ∧ At w' p c b ∧ (∀ q, p = some q → w.heap.size ≤ q) ∧ Below w.heap.size w w' := by
  obtain ⟨p, c, h1, h2, h3, h4⟩ := hq
  rw [hp] at h1 h2
  subst hn
  exact ⟨p, c, h1, h2, h3, h4⟩
theorem find_of {q : List UInt8 × Bool} {w : World} {e : Ending} {w' : World} {x : List UInt8} {z : Bool} (hp : q = (x, z)) (hq : FindPost q w e w') : ∃ A n c, e = .returned (.tuple #[.slice A n c, .bool z]) ∧ Src w' A n x ∧ (∀ y, A = some y → w.heap.size ≤ y.block) ∧ Below w.heap.size w w' := by
  subst hp
  obtain ⟨v, rfl, ho, hb⟩ := hq
  obtain ⟨A, c, rfl, _, hs, hy⟩ := ho.cut_
  exact ⟨A, _, c, rfl, hs, hy, hb⟩
theorem print_none {h : Hel} {w : World} {e : Ending} {w' : World} (hp : printS h = ([], false)) (hq : PrintPost h w e w') : ∃ p c, e = .returned (.tuple #[.slice (ad p) 0 c, .bool false]) ∧ Below w.heap.size w w' := by
  obtain ⟨p, c, h1, h2, h3, h4⟩ := hq
  rw [hp] at h1
  exact ⟨p, c, h1, h4⟩

theorem At.set_ {w : World} {q c : Nat} {bs : List UInt8} (h : At w (some q) c bs) (i : Nat) (x : UInt8) : At (w.setCell ⟨q, i, none⟩ (b8 x)) (some q) c (bs.set i x) := by
  obtain ⟨⟨hl, ⟨h0, _⟩ | ⟨g, cap, cur, hv, hg, hh, hn, hm, hz, ht⟩⟩⟩ := h
  · cases h0
  · have e : q = g := by injection hv with hv _ _; injection hv with hv; injection hv
    subst e
    have hb : Blk w q 5 cur := hh
    refine ⟨⟨by rw [cellsOf_length]; omega, .inr ⟨q, cap, _, ?_, hg, hb.set_ i (b8 x), by rw [List.length_set]; exact hn, hm, by rw [Array.size_setIfInBounds]; exact hz, ?_⟩⟩⟩
    · rw [List.length_set]
      exact hv
    · rw [Array.toList_setIfInBounds, List.take_set, List.length_set, ht]
      simp [cellsOf]
theorem At.some_of {w : World} {p : Option Nat} {c : Nat} {bs : List UInt8} (h : At w p c bs) (hl : 0 < bs.length) : ∃ q, p = some q := by
  cases p with
  | some q => exact ⟨q, rfl⟩
  | none =>
    obtain ⟨_, h0 | ⟨g, cap, cur, hv, _⟩⟩ := h.own
    · have := h0.2; omega
    · cases hv
theorem srcX_two {w : World} {ga gx : Nat} (k : Int) (hk : k = 0 ∨ k = 7) (hb : Blk w gx 42 #[.int .i64 7, .slice (some ⟨ga, 0, none⟩) 1 1, .int .i64 k, .slice none 0 0]) (hs : Src w (some ⟨ga, 0, none⟩) 1 [97]) :
    SrcX w (some ⟨gx, 0, none⟩) [⟨7, some ⟨ga, 0, none⟩, 1, 1, [97]⟩, ⟨k, none, 0, 0, []⟩] := fun i x hx => by
  match i with
  | 0 =>
    have e : x = ⟨7, some ⟨ga, 0, none⟩, 1, 1, [97]⟩ := by simpa using hx.symm
    subst e
    exact ⟨⟨by show (-9223372036854775808 : Int) ≤ 7 ∧ (7 : Int) ≤ _; omega, Nat.le_refl _, hs, by show 1 ≤ _; omega⟩, gx, 0, rfl, hb.lt, by rw [hb.cell]; rfl, by rw [hb.cell]; rfl⟩
  | 1 =>
    have e : x = ⟨k, none, 0, 0, []⟩ := by simpa using hx.symm
    subst e
    exact ⟨⟨by show (-9223372036854775808 : Int) ≤ k ∧ k ≤ _; omega, Nat.le_refl _, Src.nil w, Nat.zero_le _⟩, gx, 0, rfl, hb.lt, by rw [hb.cell]; rfl, by rw [hb.cell]; rfl⟩
  | i + 2 => simp at hx

set_option maxRecDepth 100000 in
set_option maxHeartbeats 4000000 in
theorem small_any (w : World) : Calls Try.prog 9 #[] w fun e w' => e = .returned (.bool true) ∧ Below w.heap.size w w' := by
  go_enter Try.func9, Try.ntmps9
  go_upto_region 2 with (first
    | (refine go_bdH _ _ _ rfl rfl rfl rfl rfl ?_)
    | (refine go_st 28 (blk_at _ _ _ _ (w.heap.size + 1 + 1) (by rw [alloc_size, alloc_size]) rfl) infH rfl (Hv.size rfl) (Hv.one _) rfl rfl rfl rfl ?_))
  rw [← zeroC]
  have BC := Lib.hid (show Blk (((w.alloc (.cells #[.int .i64 4865] 3)).alloc (.cells #[.int .u8 0] 5)).alloc (.cells Hv.zero.C 28)) w.heap.size 3 #[.int .i64 4865] from ((Blk.new _ _ _).alloc _).alloc _)
  have BM := Lib.hid (show Blk (((w.alloc (.cells #[.int .i64 4865] 3)).alloc (.cells #[.int .u8 0] 5)).alloc (.cells Hv.zero.C 28)) (w.heap.size + 1) 5 #[.int .u8 0] from (blk_at _ _ _ _ _ (by rw [alloc_size]) rfl).alloc _)
  have BH := Lib.hid (show Blk (((w.alloc (.cells #[.int .i64 4865] 3)).alloc (.cells #[.int .u8 0] 5)).alloc (.cells Hv.zero.C 28)) (w.heap.size + 1 + 1) 28 Hv.zero.C from blk_at _ _ _ _ _ (by rw [alloc_size, alloc_size]) rfl)
  have BB := Lib.hid (show Below w.heap.size w (((w.alloc (.cells #[.int .i64 4865] 3)).alloc (.cells #[.int .u8 0] 5)).alloc (.cells Hv.zero.C 28)) from (((Below.refl _ _).alloc (Nat.le_refl _) _).alloc (by simp) _).alloc (by simp; omega) _)
  generalize (((w.alloc (.cells #[.int .i64 4865] 3)).alloc (.cells #[.int .u8 0] 5)).alloc (.cells Hv.zero.C 28)) = w1 at *
  obtain ⟨gc, hgc⟩ : ∃ gc, gc = w.heap.size := ⟨_, rfl⟩
  obtain ⟨gm, hgm⟩ : ∃ gm, gm = w.heap.size + 1 := ⟨_, rfl⟩
  obtain ⟨g1, hg1⟩ : ∃ g1, g1 = w.heap.size + 1 + 1 := ⟨_, rfl⟩
  rw [← hg1, ← hgm, ← hgc]
  rw [← hgc] at BC
  rw [← hgm] at BM
  rw [← hg1] at BH
  have lo1 : w.heap.size ≤ gc := by omega
  have lo2 : gc < g1 := by omega
  have lo3 : gm < g1 := by omega
  clear hgc hgm hg1
  have BH2 := Lib.hid (setRow_blk (new := (Hs gc gm false none 0 []).C) BH.out)
  replace BC := Lib.hid (Blk.row_far BC.out (by omega) (g' := g1) (Hs gc gm false none 0 []).C)
  replace BM := Lib.hid (Blk.row_far BM.out (by omega) (g' := g1) (Hs gc gm false none 0 []).C)
  replace BB := Lib.hid (setRow_below BB.out (g := g1) (by omega) (Hs gc gm false none 0 []).C)
  clear BH
  generalize w1.setRow g1 (Hs gc gm false none 0 []).C = w2 at *
  clear w1
  -- the first Print
  go_wp2_with (refine go_ld 28 BH2.out undH rfl infH (Hv.size rfl) rfl rfl rfl ?_)
  refine (print_any (Hs gc gm false none 0 []) w2 (Hs.ok BC.out BM.out (SrcX.nil _ _) (Nat.le_refl _) (by simp)) (Hs.short (by simp))).mono ?_
  intro e w3 hq
  obtain ⟨p, c, rfl, ha, hp, hb⟩ := print_of (h := h0) p0 l0 hq
  clear hq
  have HP := Lib.hid (show ∀ q, p = some q → g1 < q from fun q h => Nat.lt_of_lt_of_le BH2.out.lt (hp q h))
  replace BC := Lib.hid (BC.out.below hb BC.out.lt)
  replace BM := Lib.hid (BM.out.below hb BM.out.lt)
  replace BH2 := Lib.hid (BH2.out.below hb BH2.out.lt)
  replace BB := Lib.hid (BB.out.trans (hb.mono BB.out.size))
  have BA := Lib.hid ha
  obtain ⟨q, rfl⟩ := At.some_of ha (by rw [l0]; omega)
  have lop := HP.out q rfl
  rw [show ad (some q) = some ⟨q, 0, none⟩ from rfl]
  clear ha hp hb HP
  go_upto_region 5 with fail
  -- the first Parse
  go_wp2_with fail
  refine (parse_any (some ⟨q, 0, none⟩) 41 c b0 w3 (by have := BA.out.src.2; rw [l0] at this; exact this) (by omega)).mono ?_
  intro e w4 hq
  obtain ⟨H4, rfl, ho4, hh4, hb⟩ := parse_of q0 hq
  clear hq
  replace BC := Lib.hid (BC.out.below hb BC.out.lt)
  replace BM := Lib.hid (BM.out.below hb BM.out.lt)
  replace BH2 := Lib.hid (BH2.out.below hb BH2.out.lt)
  replace BB := Lib.hid (BB.out.trans (hb.mono BB.out.size))
  replace BA := Lib.hid (BA.out.but (But.of_below hb []) (by simp))
  have HO4 := Lib.hid ho4
  have HH4 := Lib.hid hh4
  have hr4 := ho4.rnd
  clear ho4 hh4 hb w3
  go_upto_region 6 with (refine go_st 28 (Blk.new _ _ _) infH rfl (Hv.size hr4) (Hv.one _) rfl rfl rfl rfl ?_)
  rw [← zeroC]
  have lo4 : g1 < w4.heap.size := BH2.out.lt
  obtain ⟨la4, hb⟩ := laid_new HO4.out
  replace BC := Lib.hid (BC.out.below hb BC.out.lt)
  replace BM := Lib.hid (BM.out.below hb BM.out.lt)
  replace BH2 := Lib.hid (BH2.out.below hb BH2.out.lt)
  replace BB := Lib.hid (BB.out.trans (hb.mono BB.out.size))
  replace BA := Lib.hid (BA.out.but (But.of_below hb []) (by simp))
  have B4 := Lib.hid la4.blk
  clear la4 hb
  generalize (w4.alloc (.cells Hv.zero.C 28)).setRow w4.heap.size H4.C = w5 at *
  generalize w4.heap.size = g4 at *
  clear w4 HO4
  have hc := cell_has BH2.out rfl
  have hf := BH2.out.frozen 36
  go_upto_region 7 with fail
  clear hc hf
  have hbut : But [g1] w5 (w5.setCell ⟨g1, 36, none⟩ (.bool true)) := (But.refl _ _).set_ (p := ⟨g1, 36, none⟩) (.inl (by simp)) _
  have BH2o := BH2
  replace BH2 := Lib.hid (show Blk (w5.setCell ⟨g1, 36, none⟩ (.bool true)) g1 28 (Hs gc gm true none 0 []).C from BH2.out.set_ 36 (.bool true))
  replace BC := Lib.hid (BC.out.but hbut (by simp; omega))
  replace BM := Lib.hid (BM.out.but hbut (by simp; omega))
  replace BB := Lib.hid (BB.out.trans (hbut.below (by simp; omega) BB.out.size))
  replace BA := Lib.hid (BA.out.but hbut (fun b e hm => BA.out.ne BH2o.out (by decide) (by rw [e, List.mem_singleton.1 hm])))
  replace B4 := Lib.hid (B4.out.but hbut (by simp; omega))
  clear hbut BH2o
  generalize w5.setCell ⟨g1, 36, none⟩ (.bool true) = w6 at *
  clear w5
  have kc := Lib.run_convert_bytes_const (P := Try.prog) w6 22 5 #[.int .u8 97] 1 1 Try.underlying22 Try.underlying5
  have hc := cell_xs BH2.out rfl
  have hf := BH2.out.frozen 37
  have hl1 := BH2.out.lt
  go_upto_region 8 with fail
  have loq0 := BA.out.lt rfl
  obtain ⟨ga, hga⟩ : ∃ ga, ga = w6.heap.size := ⟨_, rfl⟩
  obtain ⟨gx, hgx⟩ : ∃ gx, gx = w6.heap.size + 1 := ⟨_, rfl⟩
  clear kc hc hf
  have hz : (w6.setCell ⟨g1, 37, none⟩ (.slice (some ⟨w6.heap.size + 1, 0, none⟩) 2 2)).heap.size = w6.heap.size := by simp [World.setCell]
  have SA := Src.marked (w6.setCell ⟨g1, 37, none⟩ (.slice (some ⟨w6.heap.size + 1, 0, none⟩) 2 2)) #[.int .u8 97] 5 (1, 2) [97] rfl
  rw [hz] at SA
  replace SA := Lib.hid (SA.alloc (.cells #[.int .i64 7, .slice (some ⟨w6.heap.size, 0, none⟩) 1 1, .int .i64 0, .slice none 0 0] 42))
  have BX := Lib.hid (blk_at ((w6.setCell ⟨g1, 37, none⟩ (.slice (some ⟨w6.heap.size + 1, 0, none⟩) 2 2)).alloc (.cells #[.int .u8 97] 5 (1, 2))) 42 #[.int .i64 7, .slice (some ⟨w6.heap.size, 0, none⟩) 1 1, .int .i64 0, .slice none 0 0] _ (w6.heap.size + 1) (by rw [alloc_size, hz]) rfl)
  have hbut : But [g1] w6 (((w6.setCell ⟨g1, 37, none⟩ (.slice (some ⟨w6.heap.size + 1, 0, none⟩) 2 2)).alloc (.cells #[.int .u8 97] 5 (1, 2))).alloc (.cells #[.int .i64 7, .slice (some ⟨w6.heap.size, 0, none⟩) 1 1, .int .i64 0, .slice none 0 0] 42)) :=
    (((But.refl _ _).set_ (p := ⟨g1, 37, none⟩) (.inl (by simp)) _).alloc _).alloc _
  have BH2o := BH2
  have hl4 := B4.out.lt
  replace BH2 := Lib.hid (show Blk (((w6.setCell ⟨g1, 37, none⟩ (.slice (some ⟨w6.heap.size + 1, 0, none⟩) 2 2)).alloc (.cells #[.int .u8 97] 5 (1, 2))).alloc (.cells #[.int .i64 7, .slice (some ⟨w6.heap.size, 0, none⟩) 1 1, .int .i64 0, .slice none 0 0] 42)) g1 28 (Hs gc gm true (some ⟨w6.heap.size + 1, 0, none⟩) 2 [⟨7, some ⟨w6.heap.size, 0, none⟩, 1, 1, [97]⟩, ⟨0, none, 0, 0, []⟩]).C from ((BH2.out.set_ 37 (.slice (some ⟨w6.heap.size + 1, 0, none⟩) 2 2)).alloc _).alloc _)
  replace BC := Lib.hid (BC.out.but hbut (by simp; omega))
  replace BM := Lib.hid (BM.out.but hbut (by simp; omega))
  replace BB := Lib.hid (BB.out.trans (hbut.below (by simp; omega) BB.out.size))
  replace BA := Lib.hid (BA.out.but hbut (fun b e hm => BA.out.ne BH2o.out (by decide) (by rw [e, List.mem_singleton.1 hm])))
  replace B4 := Lib.hid (B4.out.but hbut (by simp; omega))
  clear hbut BH2o hz
  rw [← hgx, ← hga]
  rw [← hgx, ← hga] at BC BM BB BA B4 BH2 BX SA
  generalize ((w6.setCell ⟨g1, 37, none⟩ (.slice (some ⟨gx, 0, none⟩) 2 2)).alloc (.cells #[.int .u8 97] 5 (1, 2))).alloc (.cells #[.int .i64 7, .slice (some ⟨ga, 0, none⟩) 1 1, .int .i64 0, .slice none 0 0] 42) = w7 at *
  rw [← hga] at loq0
  have lox : g1 < gx := by omega
  have loax : ga ≠ gx := by omega
  have loqa : q < ga := loq0
  have lo4x : g4 < gx := by omega
  clear hga hgx hl1 hl4 w6
  -- the second Print
  go_wp2_with (refine go_ld 28 BH2.out undH rfl infH (Hv.size rfl) rfl rfl rfl ?_)
  refine (print_any _ w7 (Hs.ok BC.out BM.out (srcX_two 0 (.inl rfl) BX.out SA.out) (Nat.le_refl _) (by simp)) (Hs.short (by simp))).mono ?_
  intro e w8 hq
  obtain ⟨p2', c2, rfl, ha, hp, hb⟩ := print_of (h := h2) p2 l2 hq
  clear hq
  replace BC := Lib.hid (BC.out.below hb BC.out.lt)
  replace BM := Lib.hid (BM.out.below hb BM.out.lt)
  replace BH2 := Lib.hid (BH2.out.below hb BH2.out.lt)
  replace BB := Lib.hid (BB.out.trans (hb.mono BB.out.size))
  replace BA := Lib.hid (BA.out.but (But.of_below hb []) (by simp))
  replace B4 := Lib.hid (B4.out.below hb B4.out.lt)
  replace SA := Lib.hid (SA.out.below hb)
  replace BX := Lib.hid (BX.out.below hb BX.out.lt)
  have BA2 := Lib.hid ha
  obtain ⟨q2', rfl⟩ := At.some_of ha (by rw [l2]; omega)
  rw [show ad (some q2') = some ⟨q2', 0, none⟩ from rfl]
  clear ha hp hb w7
  -- the second Parse
  go_wp2_with fail
  refine (parse_any (some ⟨q2', 0, none⟩) 52 c2 b2 w8 (by have := BA2.out.src.2; rw [l2] at this; exact this) (by omega)).mono ?_
  intro e w9 hq
  obtain ⟨H8, rfl, ho8, hh8, hb⟩ := parse_of q2 hq
  clear hq BA2
  replace BC := Lib.hid (BC.out.below hb BC.out.lt)
  replace BM := Lib.hid (BM.out.below hb BM.out.lt)
  replace BH2 := Lib.hid (BH2.out.below hb BH2.out.lt)
  replace BB := Lib.hid (BB.out.trans (hb.mono BB.out.size))
  replace BA := Lib.hid (BA.out.but (But.of_below hb []) (by simp))
  replace B4 := Lib.hid (B4.out.below hb B4.out.lt)
  replace SA := Lib.hid (SA.out.below hb)
  replace BX := Lib.hid (BX.out.below hb BX.out.lt)
  have HO8 := Lib.hid ho8
  have HH8 := Lib.hid hh8
  have hr8 := ho8.rnd
  clear ho8 hh8 hb w8
  go_upto_region 10 with (refine go_st 28 (Blk.new _ _ _) infH rfl (Hv.size hr8) (Hv.one _) rfl rfl rfl rfl ?_)
  rw [← zeroC]
  have lo8 : g1 < w9.heap.size := BH2.out.lt
  have lox8 : gx < w9.heap.size := BX.out.lt
  obtain ⟨la8, hb⟩ := laid_new HO8.out
  replace BC := Lib.hid (BC.out.below hb BC.out.lt)
  replace BM := Lib.hid (BM.out.below hb BM.out.lt)
  replace BH2 := Lib.hid (BH2.out.below hb BH2.out.lt)
  replace BB := Lib.hid (BB.out.trans (hb.mono BB.out.size))
  replace BA := Lib.hid (BA.out.but (But.of_below hb []) (by simp))
  replace B4 := Lib.hid (B4.out.below hb B4.out.lt)
  replace SA := Lib.hid (SA.out.below hb)
  replace BX := Lib.hid (BX.out.below hb BX.out.lt)
  have B8 := Lib.hid la8.blk
  replace HO8 := Lib.hid la8.own
  clear la8 hb
  generalize (w9.alloc (.cells Hv.zero.C 28)).setRow w9.heap.size H8.C = w10 at *
  generalize w9.heap.size = g8 at *
  clear w9
  -- Find
  go_wp2_with (refine go_ld 28 B8.out undH rfl infH (Hv.size hr8) rfl rfl rfl ?_)
  refine (find_any H8 7 w10 HO8.out.ok).mono ?_
  intro e w11 hq
  obtain ⟨A7, n7, c7, rfl, hs, hy7, hb⟩ := find_of (x := [97]) (z := true) (by rw [HH8.out]; exact f7) hq
  have SQ : Hid (∀ y, A7 = some y → y.block ∉ [q]) := fun y hy hm => by
    have h1 := hy7 y hy
    have h2 := BA.out.lt rfl
    rw [List.mem_singleton.1 hm] at h1
    omega
  have SX : Hid (∀ y, A7 = some y → y.block ∉ [gx]) := fun y hy hm => by
    have h1 := hy7 y hy
    have h2 := BX.out.lt
    rw [List.mem_singleton.1 hm] at h1
    omega
  clear hq hy7
  replace BC := Lib.hid (BC.out.below hb BC.out.lt)
  replace BM := Lib.hid (BM.out.below hb BM.out.lt)
  replace BH2 := Lib.hid (BH2.out.below hb BH2.out.lt)
  replace BB := Lib.hid (BB.out.trans (hb.mono BB.out.size))
  replace BA := Lib.hid (BA.out.but (But.of_below hb []) (by simp))
  replace B4 := Lib.hid (B4.out.below hb B4.out.lt)
  replace SA := Lib.hid (SA.out.below hb)
  replace BX := Lib.hid (BX.out.below hb BX.out.lt)
  replace B8 := Lib.hid (B8.out.below hb B8.out.lt)
  replace HO8 := Lib.hid (HO8.out.below hb)
  have SD := Lib.hid hs
  clear hs hb w10
  go_wp2_with (refine go_ld 28 B8.out undH rfl infH (Hv.size hr8) rfl rfl rfl ?_)
  refine (find_any H8 9 w11 HO8.out.ok).mono ?_
  intro e w12 hq
  obtain ⟨A9, n9, c9, rfl, -, -, hb⟩ := find_of (x := []) (z := false) (by rw [HH8.out]; exact f9) hq
  clear hq
  replace BC := Lib.hid (BC.out.below hb BC.out.lt)
  replace BM := Lib.hid (BM.out.below hb BM.out.lt)
  replace BH2 := Lib.hid (BH2.out.below hb BH2.out.lt)
  replace BB := Lib.hid (BB.out.trans (hb.mono BB.out.size))
  replace BA := Lib.hid (BA.out.but (But.of_below hb []) (by simp))
  replace B4 := Lib.hid (B4.out.below hb B4.out.lt)
  replace SA := Lib.hid (SA.out.below hb)
  replace BX := Lib.hid (BX.out.below hb BX.out.lt)
  replace B8 := Lib.hid (B8.out.below hb B8.out.lt)
  replace HO8 := Lib.hid (HO8.out.below hb)
  replace SD := Lib.hid (SD.out.below hb)
  clear hb w11
  -- Parse of what is cut
  have hsl : (41 : Int) ≤ (c : Int) := by have := BA.out.src.1; rw [l0] at this; omega
  go_wp2_with fail
  refine (parse_any (some ⟨q, 0, none⟩) 40 c (b0.take 40) w12 (by have := BA.out.src.2; rw [l0] at this; exact this.take (by omega)) (by omega)).mono ?_
  intro e w13 hq
  obtain ⟨H14, rfl, ho, hb⟩ := parse_ofE q40 hq
  clear hq hsl
  replace BC := Lib.hid (BC.out.below hb BC.out.lt)
  replace BM := Lib.hid (BM.out.below hb BM.out.lt)
  replace BH2 := Lib.hid (BH2.out.below hb BH2.out.lt)
  replace BB := Lib.hid (BB.out.trans (hb.mono BB.out.size))
  replace BA := Lib.hid (BA.out.but (But.of_below hb []) (by simp))
  replace B4 := Lib.hid (B4.out.below hb B4.out.lt)
  replace SA := Lib.hid (SA.out.below hb)
  replace BX := Lib.hid (BX.out.below hb BX.out.lt)
  replace B8 := Lib.hid (B8.out.below hb B8.out.lt)
  replace HO8 := Lib.hid (HO8.out.below hb)
  replace SD := Lib.hid (SD.out.below hb)
  have HO14 := Lib.hid ho
  have hr14 := ho.rnd
  clear ho hb w12
  go_upto_region 13 with (refine go_st 28 (Blk.new _ _ _) infH rfl (Hv.size hr14) (Hv.one _) rfl rfl rfl rfl ?_)
  rw [← zeroC]
  obtain ⟨-, hb⟩ := laid_new HO14.out
  replace BC := Lib.hid (BC.out.below hb BC.out.lt)
  replace BM := Lib.hid (BM.out.below hb BM.out.lt)
  replace BH2 := Lib.hid (BH2.out.below hb BH2.out.lt)
  replace BB := Lib.hid (BB.out.trans (hb.mono BB.out.size))
  replace BA := Lib.hid (BA.out.but (But.of_below hb []) (by simp))
  replace B4 := Lib.hid (B4.out.below hb B4.out.lt)
  replace SA := Lib.hid (SA.out.below hb)
  replace BX := Lib.hid (BX.out.below hb BX.out.lt)
  replace B8 := Lib.hid (B8.out.below hb B8.out.lt)
  replace HO8 := Lib.hid (HO8.out.below hb)
  replace SD := Lib.hid (SD.out.below hb)
  clear hb HO14
  generalize (w13.alloc (.cells Hv.zero.C 28)).setRow w13.heap.size H14.C = w14 at *
  generalize w13.heap.size = g14 at *
  clear w13
  clear HO8
  -- a byte is changed
  have hqc : ∃ v, w14.cell? ⟨q, 40, none⟩ = some v := by
    have hv : b0[40]? = some (b0[40]'(by rw [l0]; omega)) := List.getElem?_eq_getElem _
    obtain ⟨ad', e, _, hcl⟩ := BA.out.src.2.2 (by rw [l0]; omega)
    rw [show ad (some q) = some ⟨q, 0, none⟩ from rfl] at e
    injection e with e
    subst e
    have := hcl 40 _ hv
    rw [add_flat] at this
    exact ⟨_, this⟩
  obtain ⟨v40, hc⟩ := hqc
  obtain ⟨cur, hcur, -⟩ := BA.out.row rfl
  have hf := hcur.frozen 40
  clear hcur cur
  go_upto_region 14 with fail
  clear hc hf v40
  have hbut : But [q] w14 (w14.setCell ⟨q, 40, none⟩ (.int .u8 1)) := (But.refl _ _).set_ (p := ⟨q, 40, none⟩) (.inl (by simp)) _
  have BAo := BA
  replace BA := Lib.hid (show At (w14.setCell ⟨q, 40, none⟩ (.int .u8 1)) (some q) c (b0.set 40 1) from At.set_ BA.out 40 1)
  replace BC := Lib.hid (BC.out.but hbut (by simp; omega))
  replace BM := Lib.hid (BM.out.but hbut (by simp; omega))
  replace BH2 := Lib.hid (BH2.out.but hbut (by simp; omega))
  replace BB := Lib.hid (BB.out.trans (hbut.below (by simp; omega) BB.out.size))
  replace B4 := Lib.hid (B4.out.but hbut (fun hm => BAo.out.ne B4.out (by decide) (by rw [List.mem_singleton.1 hm])))
  replace B8 := Lib.hid (B8.out.but hbut (fun hm => BAo.out.ne B8.out (by decide) (by rw [List.mem_singleton.1 hm])))
  replace BX := Lib.hid (BX.out.but hbut (fun hm => BAo.out.ne BX.out (by decide) (by rw [List.mem_singleton.1 hm])))
  replace SA := Lib.hid (SA.out.but hbut (fun _ x hx => by injection hx with hx; subst hx; simp; omega))
  replace SD := Lib.hid (SD.out.but hbut (fun _ x hx => SQ.out x hx))
  clear hbut BAo SQ
  generalize w14.setCell ⟨q, 40, none⟩ (.int .u8 1) = w15 at *
  clear w14
  -- it is parsed again
  go_wp2_with fail
  refine (parse_any (some ⟨q, 0, none⟩) 41 c (b0.set 40 1) w15 (by have := BA.out.src.2; rw [List.length_set, l0] at this; exact this) (by omega)).mono ?_
  intro e w16 hq
  obtain ⟨H16, rfl, ho, hb⟩ := parse_ofE q8 hq
  clear hq BA
  replace BC := Lib.hid (BC.out.below hb BC.out.lt)
  replace BM := Lib.hid (BM.out.below hb BM.out.lt)
  replace BH2 := Lib.hid (BH2.out.below hb BH2.out.lt)
  replace BB := Lib.hid (BB.out.trans (hb.mono BB.out.size))
  replace B4 := Lib.hid (B4.out.below hb B4.out.lt)
  replace SA := Lib.hid (SA.out.below hb)
  replace BX := Lib.hid (BX.out.below hb BX.out.lt)
  replace B8 := Lib.hid (B8.out.below hb B8.out.lt)
  replace SD := Lib.hid (SD.out.below hb)
  have HO16 := Lib.hid ho
  have hr16 := ho.rnd
  clear ho hb w15
  go_upto_region 15 with (refine go_st 28 (Blk.new _ _ _) infH rfl (Hv.size hr16) (Hv.one _) rfl rfl rfl rfl ?_)
  rw [← zeroC]
  obtain ⟨-, hb⟩ := laid_new HO16.out
  replace BC := Lib.hid (BC.out.below hb BC.out.lt)
  replace BM := Lib.hid (BM.out.below hb BM.out.lt)
  replace BH2 := Lib.hid (BH2.out.below hb BH2.out.lt)
  replace BB := Lib.hid (BB.out.trans (hb.mono BB.out.size))
  replace B4 := Lib.hid (B4.out.below hb B4.out.lt)
  replace SA := Lib.hid (SA.out.below hb)
  replace BX := Lib.hid (BX.out.below hb BX.out.lt)
  replace B8 := Lib.hid (B8.out.below hb B8.out.lt)
  replace SD := Lib.hid (SD.out.below hb)
  clear hb HO16
  generalize (w16.alloc (.cells Hv.zero.C 28)).setRow w16.heap.size H16.C = w17 at *
  generalize w16.heap.size = g16 at *
  clear w16
  -- a kind is changed
  have hcx : w17.cell? ⟨g1, 37, none⟩ = some (.slice (some ⟨gx, 0, none⟩) 2 2) := cell_xs BH2.out rfl
  have hc : w17.cell? ⟨gx, 2, none⟩ = some (.int .i64 0) := by rw [BX.out.cell]; rfl
  have hf := BX.out.frozen 2
  go_upto_region 16 with fail
  clear hc hf hcx
  have hbut : But [gx] w17 (w17.setCell ⟨gx, 2, none⟩ (.int .i64 7)) := (But.refl _ _).set_ (p := ⟨gx, 2, none⟩) (.inl (by simp)) _
  replace BX := Lib.hid (show Blk (w17.setCell ⟨gx, 2, none⟩ (.int .i64 7)) gx 42 #[.int .i64 7, .slice (some ⟨ga, 0, none⟩) 1 1, .int .i64 7, .slice none 0 0] from BX.out.set_ 2 (.int .i64 7))
  replace BC := Lib.hid (BC.out.but hbut (by simp; omega))
  replace BM := Lib.hid (BM.out.but hbut (by simp; omega))
  replace BH2 := Lib.hid (BH2.out.but hbut (by simp; omega))
  replace BB := Lib.hid (BB.out.trans (hbut.below (by simp; omega) BB.out.size))
  replace B4 := Lib.hid (B4.out.but hbut (by simp; omega))
  replace B8 := Lib.hid (B8.out.but hbut (by simp; omega))
  replace SA := Lib.hid (SA.out.but hbut (fun _ x hx => by injection hx with hx; subst hx; simp; omega))
  replace SD := Lib.hid (SD.out.but hbut (fun _ x hx => SX.out x hx))
  clear hbut SX
  generalize w17.setCell ⟨gx, 2, none⟩ (.int .i64 7) = w18 at *
  clear w17
  go_wp2_with (refine go_ld 28 BH2.out undH rfl infH (Hv.size rfl) rfl rfl rfl ?_)
  refine (print_any _ w18 (Hs.ok BC.out BM.out (srcX_two 7 (.inr rfl) BX.out SA.out) (Nat.le_refl _) (by simp)) (Hs.short (by simp))).mono ?_
  intro e w19 hq
  obtain ⟨p3', c3, rfl, hb⟩   := print_none (h := h3) p3 hq
  clear hq
  replace BB := Lib.hid (BB.out.trans (hb.mono BB.out.size))
  replace B4 := Lib.hid (B4.out.below hb B4.out.lt)
  replace B8 := Lib.hid (B8.out.below hb B8.out.lt)
  replace SD := Lib.hid (SD.out.below hb)
  clear hb w18 BX SA BC BM BH2
  have e4 : H4.ver = 771 := congrArg Hel.ver HH4.out
  have e5 : H4.has = false := congrArg Hel.has HH4.out
  have e8 : H8.xs.length = 2 := by
    have := congrArg (fun h => h.exts.length) HH8.out
    simpa [Hv.hel, h2] using this
  have c4 := cell_ver B4.out
  have c5 := cell_has B4.out hr4
  have c8 := cell_xs B8.out hr8
  have kd := con8 (c := c7) SD.out
  rw [e4] at c4
  rw [e5] at c5
  rw [e8] at c8
  clear e4 e5 e8
  go_wp2_with fail
  go_ret
  exact ⟨rfl, BB.out⟩
end Go.Proofs.Ytpnidmegeimboaa.He
