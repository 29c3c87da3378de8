/-
 Contract of package tlspeek's fresh over this seat's translation: the same verdict, its rows in new memory.
-/
import Derived.Test.YthfknndjdfofgaaGreatDoorQ15
import Derived.Test.YthfknndjdfofgaaGreatDoorQ43
import Derived.Test.YthfknndjdfofgaaGreatDoorQ45
import Derived.Test.YthfknndjdfofgaaGreatDoorQ33
import Derived.Test.YthfknndjdfofgaaGreatDoorQ32
import Derived.Test.YthfknndjdfofgaaGreatDoorQ23
namespace Go.Proofs.YthfknndjdfofgaaGreatDoor.Tp
open Go.RowKit Go.Proofs.YthfknndjdfofgaaGreatDoor.Wd

theorem set_same {cs : Array Value} {i : Nat} {v : Value} (hv : cs[i]? = some v) : cs.setIfInBounds i v = cs := by
 apply Array.ext_getElem?
 intro j
 rw [Array.getElem?_setIfInBounds]
 obtain ⟨hi, he⟩ := Array.getElem?_eq_some_iff.1 hv
 split
 · rename_i e
   subst e
   rw [hv]
   first | done | rw [if_pos hi]
 · rfl
theorem cell_same {w : World} {g t i : Nat} {cs : Array Value} {v : Value} (h : Blk w g t cs) (hv : cs[i]? = some v) : w.setCell ⟨g, i, none⟩ v = w := by
 have hh : ∀ f : Obj → Obj, f (.cells cs t (0, 0)) = .cells cs t (0, 0) → w.heap.modify g f = w.heap := by
   intro f hf
   apply Array.ext_getElem?
   intro j
   rw [Array.getElem?_modify]
   split
   · rename_i e
     subst e
     rw [h.heap]
     show some (f _) = _
     rw [hf]
   · rfl
 unfold World.setCell
 rw [hh _ (by show Obj.cells (if (none : Option _).isSome then cs else cs.setIfInBounds i v) t (0, 0) = _; rw [if_neg (by simp), set_same hv])]
theorem vC_alpn (z u r : Int) (H : ByteArray) (s : Ex.Sn) (va vv v : Value) : (vC z 1 u r H s va vv).setIfInBounds 8 v = vC z 1 u r H s v vv := by simp [vC]
theorem vC_vers (z u r : Int) (H : ByteArray) (s : Ex.Sn) (va vv v : Value) : (vC z 1 u r H s va vv).setIfInBounds 9 v = vC z 1 u r H s va v := by simp [vC]
theorem only_at (w : World) (g i : Nat) (v : Value) : w.grownBy (w.setCell ⟨g, i, none⟩ v) (some g) := only_setCell (p := ⟨g, i, none⟩) (only_refl w _) (.inl rfl) _
structure FrAt (w : World) (G : Nat) (z u r : Int) (H : ByteArray) (s : Ex.Sn) (va vv : Value) (B2 : Nat) (wr : World) : Prop where
 vb : Blk wr G 31 (vC z 1 u r H s va vv)
 rb : Blk wr (G + 1) 31 #[Value.int .i64 0, .int .i64 0, .int .i64 0, .int .i64 0, .string ⟨#[]⟩, .int .i64 0, .bool false, .string ⟨#[]⟩, .slice none 0 0, .slice none 0 0, .bool false]
 al : Ex.RelP wr G va s.alpn
 ve : Ex.RelV wr B2 vv s.vers
 bel : Below G w wr
theorem FrAt.below {w wr w' : World} {G : Nat} {z u r : Int} {H : ByteArray} {s : Ex.Sn} {va vv : Value} {B2 : Nat} (h : FrAt w G z u r H s va vv B2 wr) (hb : Below wr.heap.size wr w') : FrAt w G z u r H s va vv B2 w' :=
 ⟨h.vb.below hb h.vb.lt, h.rb.below hb h.rb.lt, h.al.below hb, h.ve.below hb, h.bel.trans (hb.mono (by have := h.vb.lt; omega))⟩

set_option linter.unusedSimpArgs false in
set_option maxRecDepth 100000 in
set_option maxHeartbeats 8000000 in
theorem fresh_any (z u r : Int) (H : ByteArray) (s : Ex.Sn) (va vv : Value) (B1 B2 : Nat) (w : World) (hH : H.size ≤ 255) (hF : s.name.length ≤ 255 ∧ ∀ x ∈ s.alpn, x.length ≤ 255) (h1 : Ex.RelP w B1 va s.alpn) (h2 : Ex.RelV w B2 vv s.vers) :
   Calls Tryz.prog 28 #[.agg (vC z 1 u r H s va vv)] w fun e w' => ∃ va' vv', e = .returned (.agg (vC z 1 u r H s va' vv')) ∧ Ex.RelP w' w.heap.size va' s.alpn ∧ Ex.RelV w' w.heap.size vv' s.vers ∧ Below w.heap.size w w' := by
 have HB0 : Hid (Below w.heap.size w ((w.alloc (.cells (vC z 1 u r H s va vv) 31)).alloc (.cells #[Value.int .i64 0, .int .i64 0, .int .i64 0, .int .i64 0, .string ⟨#[]⟩, .int .i64 0, .bool false, .string ⟨#[]⟩, .slice none 0 0, .slice none 0 0, .bool false] 31))) := Lib.hid (((Below.refl _ _).alloc (Nat.le_refl _) _).alloc (by rw [He.alloc_size]; omega) _)
 have HK1 : Hid (Blk ((w.alloc (.cells (vC z 1 u r H s va vv) 31)).alloc (.cells #[Value.int .i64 0, .int .i64 0, .int .i64 0, .int .i64 0, .string ⟨#[]⟩, .int .i64 0, .bool false, .string ⟨#[]⟩, .slice none 0 0, .slice none 0 0, .bool false] 31)) w.heap.size 31 (vC z 1 u r H s va vv)) := Lib.hid ((Blk.new w _ _).alloc _)
 have HK2 : Hid (Blk ((w.alloc (.cells (vC z 1 u r H s va vv) 31)).alloc (.cells #[Value.int .i64 0, .int .i64 0, .int .i64 0, .int .i64 0, .string ⟨#[]⟩, .int .i64 0, .bool false, .string ⟨#[]⟩, .slice none 0 0, .slice none 0 0, .bool false] 31)) (w.heap.size + 1) 31 #[Value.int .i64 0, .int .i64 0, .int .i64 0, .int .i64 0, .string ⟨#[]⟩, .int .i64 0, .bool false, .string ⟨#[]⟩, .slice none 0 0, .slice none 0 0, .bool false]) := Lib.hid (He.blk_at _ _ _ _ _ (by rw [He.alloc_size]) rfl)
 have H1 := Lib.hid (h1.below HB0.out)
 have H2 := Lib.hid (h2.below HB0.out)
 have HFn := Lib.hid hF.1
 have HFa := Lib.hid hF.2
 have HHs := Lib.hid hH
 obtain ⟨A1, c1, rfl⟩ := Ro.OwnE.form h1.1
 obtain ⟨A2, c2, rfl⟩ := Ro.OwnE.form h2.1
 clear h1 h2 hF hH
 go_enter Tryz.func28, Tryz.ntmps28
 go_upto_region 1 with fail
 generalize (w.alloc (.cells (vC z 1 u r H s (.slice A1 s.alpn.length c1) (.slice A2 s.vers.length c2)) 31)).alloc (.cells #[Value.int .i64 0, .int .i64 0, .int .i64 0, .int .i64 0, .string ⟨#[]⟩, .int .i64 0, .bool false, .string ⟨#[]⟩, .slice none 0 0, .slice none 0 0, .bool false] 31) = w1 at *
 obtain ⟨G, hG⟩ : ∃ G, w.heap.size = G := ⟨_, rfl⟩
 have HG := Lib.hid hG
 rw [hG] at HK1 HK2 HB0
 rw [hG]
 clear hG
 have c4 : w1.cell? ⟨G, 4, none⟩ = some (.string H) := by rw [HK1.out.cell]; rfl
 have f4 := HK1.out.frozen 4
 go_wp2_with fail
 refine (Asc.clone_any H w1 (by have := HHs.out; omega)).mono ?_
 rintro e w2 ⟨rfl, hb⟩
 have HV2 := Lib.hid (HK1.out.below hb HK1.out.lt)
 have HR2 := Lib.hid (HK2.out.below hb HK2.out.lt)
 have HA2 := Lib.hid (H1.out.below hb)
 have HE2 := Lib.hid (H2.out.below hb)
 have HB2 := Lib.hid (HB0.out.trans (hb.mono (by have := HK1.out.lt; omega)))
 clear hb c4 f4 HK1 HK2 H1 H2 HB0
 have f4 := HV2.out.frozen 4
 have c4 : w2.cell? ⟨G, 4, none⟩ = some (.string H) := by rw [HV2.out.cell]; rfl
 go_upto_region 2 with fail
 rw [cell_same (i := 4) (v := .string H) HV2.out rfl]
 clear c4 f4
 have c7 : w2.cell? ⟨G, 7, none⟩ = some (.string (str8 s.name)) := by rw [HV2.out.cell]; rfl
 have hz : (str8 s.name).size ≤ 140737488355328 := by show s.name.toArray.size ≤ _; rw [List.size_toArray]; exact Nat.le_trans HFn.out (by decide)
 go_wp2_with fail
 refine (Asc.clone_any (str8 s.name) w2 hz).mono ?_
 rintro e w3 ⟨rfl, hb⟩
 have HV3 := Lib.hid (HV2.out.below hb HV2.out.lt)
 have HR3 := Lib.hid (HR2.out.below hb HR2.out.lt)
 have HA3 := Lib.hid (HA2.out.below hb)
 have HE3 := Lib.hid (HE2.out.below hb)
 have HB3 := Lib.hid (HB2.out.trans (hb.mono (by have := HV2.out.lt; omega)))
 clear hb c7 HV2 HR2 HA2 HE2 HB2 hz
 have f7 := HV3.out.frozen 7
 have c7 : w3.cell? ⟨G, 7, none⟩ = some (.string (str8 s.name)) := by rw [HV3.out.cell]; rfl
 go_upto_region 3 with fail
 rw [cell_same (i := 7) (v := .string (str8 s.name)) HV3.out rfl]
 clear c7 f7
 have c8 : w3.cell? ⟨G, 8, none⟩ = some (.slice A1 s.alpn.length c1) := by rw [HV3.out.cell]; rfl
 go_wp2_with fail
 refine (Ro.cloneS_any B1 (.slice A1 s.alpn.length c1) s.alpn w3 HA3.out.1 HA3.out.2).mono ?_
 rintro e w4 ⟨v4, rfl, ho, hb⟩
 have HV4 := Lib.hid (HV3.out.below hb HV3.out.lt)
 have HR4 := Lib.hid (HR3.out.below hb HR3.out.lt)
 have HE4 := Lib.hid (HE3.out.below hb)
 have HB4 := Lib.hid (HB3.out.trans (hb.mono (by have := HV3.out.lt; omega)))
 have HO4 := Lib.hid (show Ex.RelP w4 G v4 s.alpn from ⟨ho.lower (by have := HV3.out.lt; omega), HA3.out.2⟩)
 clear hb ho c8 HV3 HR3 HA3 HE3 HB3
 have f8 := HV4.out.frozen 8
 have c8 : w4.cell? ⟨G, 8, none⟩ = some (.slice A1 s.alpn.length c1) := by rw [HV4.out.cell]; rfl
 obtain ⟨A3, c3, rfl⟩ := Ro.OwnE.form HO4.out.1
 have hne : 31 ≠ 9 := by decide
 have hni : 31 ≠ 3 := by decide
 go_upto_region 4 with fail
 have hk := HV4.out.set_ 8 (.slice A3 s.alpn.length c3)
 rw [vC_alpn] at hk
 have HF0 : Hid (FrAt w G z u r H s (.slice A3 s.alpn.length c3) (.slice A2 s.vers.length c2) B2 (w4.setCell ⟨G, 8, none⟩ (.slice A3 s.alpn.length c3))) := Lib.hid ⟨hk, HR4.out.far (by show ¬ G + 1 = G; omega) _, HO4.out.off (only_at _ _ _ _) (He.OffT.of_blk HV4.out (fun e => hne e)), HE4.out.off (only_at _ _ _ _) (He.OffT.of_blk HV4.out (fun e => hni e)), HB4.out.grown (only_at _ _ _ _) (by have := HV4.out.lt; omega) (fun j hj => by injection hj with hj; omega)⟩
 clear hk c8 f8 HV4 HR4 HE4 HB4 HO4
 generalize w4.setCell ⟨G, 8, none⟩ (.slice A3 s.alpn.length c3) = w5 at *
 have c8 : w5.cell? ⟨G, 8, none⟩ = some (.slice A3 s.alpn.length c3) := by rw [HF0.out.vb.cell]; rfl
 obtain ⟨n, hn⟩ : ∃ n, s.alpn.length = n := ⟨_, rfl⟩
 have HN := Lib.hid hn
 have hn65 : n ≤ 65535 := by rw [← hn]; exact HF0.out.al.2
 rw [hn] at c8 HF0
 clear hn
 go_wp2_with fail
 go_loopw [25] (fun i wr => ∃ k : Nat, k ≤ n ∧ i = .int .i64 (k : Int) ∧ Hid (FrAt w G z u r H s (.slice A3 n c3) (.slice A2 s.vers.length c2) B2 wr)) (fun i _ => n - (intOf i).toNat)
 case atStart => exact ⟨0, Nat.zero_le _, rfl, HF0⟩
 case round =>
   clear HF0 c8
   obtain ⟨k, hk, rfl, HF⟩ := hrel
   by_cases hlt : k < n
   · have hki : (k : Int) < (n : Int) := by omega
     obtain ⟨x, hx⟩ : ∃ x, s.alpn[k]? = some x := ⟨_, List.getElem?_eq_getElem (by have := HN.out; omega)⟩
     have hxl : (str8 x).size ≤ 140737488355328 := by show x.toArray.size ≤ _; rw [List.size_toArray]; exact Nat.le_trans (HFa.out x (List.mem_of_getElem? hx)) (by decide)
     rcases HF.out.al.1.row with ⟨e0, e1⟩ | ⟨g, cap, cur, e0, hg, hblk, hcap, hmx, hsz, htk⟩
     · exact absurd (by rw [e1] at hx; exact hx) (by simp)
     injection e0 with e0 e1 e2
     subst e0 e2
     have hcur : cur[k]? = some (.string (str8 x)) := by
       have h := Ro.flat_at Ro.fineS s.alpn k x hx 0 _ rfl
       rw [← htk, List.getElem?_take] at h
       split at h
       · simpa [Ro.elS] using h
       · cases h
     have hcell : wr.cell? ⟨g, k, none⟩ = some (.string (str8 x)) := by rw [hblk.cell]; exact hcur
     have HBk := Lib.hid hblk
     have HCur := Lib.hid hcur
     have c8 : wr.cell? ⟨G, 8, none⟩ = some (.slice (some ⟨g, 0, none⟩) n c3) := by rw [HF.out.vb.cell]; rfl
     have HXl := Lib.hid hxl
     obtain ⟨X, hX⟩ : ∃ X, str8 x = X := ⟨_, rfl⟩
     rw [hX] at hcell HCur HXl
     clear hxl hcur hblk hsz htk e1 hx hX hmx hcap
     go_upto_region 7 with fail
     go_region_held (fun w' => w'.cell? ⟨G, 8, none⟩ = some (.slice (some ⟨g, 0, none⟩) n c3)) (first | exact c8 | exact d8 | exact e8)
       (first | (go_at_call 51; refine (Asc.clone_any X _ HXl.out).mono ?_; rintro e w6 ⟨rfl, hb⟩; have hb' : Below wr.heap.size wr w6 := (Below.refl _ _).drew.trans hb; have HF6 := Lib.hid (HF.out.below hb'); have HB6 := Lib.hid (HBk.out.below hb' HBk.out.lt); have d8 : w6.cell? ⟨G, 8, none⟩ = some (.slice (some ⟨g, 0, none⟩) n c3) := (by rw [HF6.out.vb.cell]; rfl); have fg := HB6.out.frozen k; have cg : w6.cell? ⟨g, k, none⟩ = some (.string X) := (by rw [HB6.out.cell]; exact HCur.out); have e8 : (w6.setCell ⟨g, k, none⟩ (.string X)).cell? ⟨G, 8, none⟩ = some (.slice (some ⟨g, 0, none⟩) n c3) := (by rw [cell_same (i := k) (v := .string X) HB6.out HCur.out]; exact d8); clear hb hb'))
     all_goals
       rw [cell_same (i := k) (v := .string X) HB6.out HCur.out]
       clear c8 d8 e8 fg cg hcell HF HBk
       go_wp2_with fail
       go_roundw
       case rel => exact ⟨k + 1, hlt, by go_num, HF6⟩
       case measure => simp [intOf]; omega
   · obtain rfl : k = n := by omega
     have c9 : wr.cell? ⟨G, 9, none⟩ = some (.slice A2 s.vers.length c2) := by rw [HF.out.vb.cell]; rfl
     go_wp2_with fail
     refine (Ro.cloneI_any B2 (.slice A2 s.vers.length c2) s.vers wr HF.out.ve.1 HF.out.ve.2).mono ?_
     rintro e w7 ⟨v7, rfl, ho, hb⟩
     have HV7 := Lib.hid (HF.out.vb.below hb HF.out.vb.lt)
     have HR7 := Lib.hid (HF.out.rb.below hb HF.out.rb.lt)
     have HA7 := Lib.hid (HF.out.al.below hb)
     have HB7 := Lib.hid (HF.out.bel.trans (hb.mono (by have := HF.out.vb.lt; omega)))
     have HO7 := Lib.hid (show Ex.RelV w7 G v7 s.vers from ⟨ho.lower (by have := HF.out.vb.lt; omega), HF.out.ve.2⟩)
     clear hb ho c9 HF
     have f9 := HV7.out.frozen 9
     have c9 : w7.cell? ⟨G, 9, none⟩ = some (.slice A2 s.vers.length c2) := by rw [HV7.out.cell]; rfl
     obtain ⟨A5, c5, rfl⟩ := Ro.OwnE.form HO7.out.1
     go_upto_region 10 with fail
     have hk9 := HV7.out.set_ 9 (.slice A5 s.vers.length c5)
     rw [vC_vers] at hk9
     have HV8 := Lib.hid hk9
     have HR8 := Lib.hid (HR7.out.far (p := ⟨G, 9, none⟩) (by show ¬ G + 1 = G; omega) (.slice A5 s.vers.length c5))
     have HA8 := Lib.hid (HA7.out.off (only_at w7 G 9 (.slice A5 s.vers.length c5)) (He.OffT.of_blk HV7.out (fun e => hne e)))
     have HO8 := Lib.hid (HO7.out.off (only_at w7 G 9 (.slice A5 s.vers.length c5)) (He.OffT.of_blk HV7.out (fun e => hni e)))
     have HB8 : Hid (Below G w (w7.setCell ⟨G, 9, none⟩ (.slice A5 s.vers.length c5))) := Lib.hid (HB7.out.grown (only_at _ _ _ _) (by have := HV7.out.lt; omega) (fun j hj => by injection hj with hj; omega))
     clear hk9 c9 f9 HV7 HR7 HA7 HO7 HB7
     generalize w7.setCell ⟨G, 9, none⟩ (.slice A5 s.vers.length c5) = w8 at *
     have k8 := HV8.out
     go_wp2_with (first | (refine He.go_ld 31 k8 undV rfl infV rfl rfl rfl rfl ?_) | (refine He.go_st 31 HR8.out infV rfl (vC_size _ _ _ _ _ _ _ _) (vC_one _ _ _ _ _ _ _ _ _ _ _ _) rfl rfl rfl rfl ?_))
     refine St.ret_one Tryz.results28 (He.setRow_blk HR8.out) undV rfl infV rfl rfl ?_ rfl
     rw [HG.out]
     exact ⟨_, _, rfl, HA8.out.off (St.only_row _ _ _) (He.OffT.of_blk HR8.out (fun e => hne e)), HO8.out.off (St.only_row _ _ _) (He.OffT.of_blk HR8.out (fun e => hni e)), He.setRow_below HB8.out (by omega) _⟩
end Go.Proofs.YthfknndjdfofgaaGreatDoor.Tp

/-
 Contract of the document's own Same of layer 15 (hagioscoperef15): two verdicts that tell the same are the same.
-/
namespace Go.Proofs.YthfknndjdfofgaaGreatDoor.Tp
open Go.RowKit Go.Proofs.YthfknndjdfofgaaGreatDoor.Wd

theorem range_seen {w : World} {g t : Nat} {z p u r : Int} {H : ByteArray} {s : Ex.Sn} {va vv : Value} (h : Blk w g t (vC z p u r H s va vv)) : w.rangeAt g 6 (Ex.snC s va vv).toList := fun j v hv => by
 rw [h.cell]
 rcases j with _ | _ | _ | _ | _ | j
 · simpa [Ex.snC, vC] using hv
 · simpa [Ex.snC, vC] using hv
 · simpa [Ex.snC, vC] using hv
 · simpa [Ex.snC, vC] using hv
 · simpa [Ex.snC, vC] using hv
 · simp [Ex.snC] at hv
set_option linter.unusedSimpArgs false in
set_option maxRecDepth 100000 in
set_option maxHeartbeats 8000000 in
theorem samev_any (z p u r : Int) (H : ByteArray) (s : Ex.Sn) (va vv vb vu : Value) (B1 B2 B3 B4 : Nat) (w : World) (h1 : Ex.RelP w B1 va s.alpn) (h2 : Ex.RelV w B2 vv s.vers) (h3 : Ex.RelP w B3 vb s.alpn) (h4 : Ex.RelV w B4 vu s.vers) :
   Calls Tryz.prog 9 #[.agg (vC z p u r H s va vv), .agg (vC z p u r H s vb vu)] w fun e w' => e = .returned (.bool true) ∧ Below w.heap.size w w' := by
 have HB0 : Hid (Below w.heap.size w ((w.alloc (.cells (vC z p u r H s va vv) 31)).alloc (.cells (vC z p u r H s vb vu) 31))) := Lib.hid (((Below.refl _ _).alloc (Nat.le_refl _) _).alloc (by rw [He.alloc_size]; omega) _)
 have HK1 : Hid (Blk ((w.alloc (.cells (vC z p u r H s va vv) 31)).alloc (.cells (vC z p u r H s vb vu) 31)) w.heap.size 31 (vC z p u r H s va vv)) := Lib.hid ((Blk.new w _ _).alloc _)
 have HK2 : Hid (Blk ((w.alloc (.cells (vC z p u r H s va vv) 31)).alloc (.cells (vC z p u r H s vb vu) 31)) (w.heap.size + 1) 31 (vC z p u r H s vb vu)) := Lib.hid (He.blk_at _ _ _ _ _ (by rw [He.alloc_size]) rfl)
 have H1 := Lib.hid (h1.below HB0.out)
 have H2 := Lib.hid (h2.below HB0.out)
 have H3 := Lib.hid (h3.below HB0.out)
 have H4 := Lib.hid (h4.below HB0.out)
 clear h1 h2 h3 h4
 go_enter Tryz.func9, Tryz.ntmps9
 go_upto_region 1 with fail
 generalize (w.alloc (.cells (vC z p u r H s va vv) 31)).alloc (.cells (vC z p u r H s vb vu) 31) = w1 at *
 obtain ⟨G, hG⟩ : ∃ G, w.heap.size = G := ⟨_, rfl⟩
 rw [hG] at HK1 HK2
 rw [hG]
 clear hG
 have c10 : w1.cell? ⟨G, 0, none⟩ = some (.int .i64 z) := by rw [HK1.out.cell]; rfl
 have c20 : w1.cell? ⟨G + 1, 0, none⟩ = some (.int .i64 z) := by rw [HK2.out.cell]; rfl
 have c11 : w1.cell? ⟨G, 1, none⟩ = some (.int .i64 p) := by rw [HK1.out.cell]; rfl
 have c21 : w1.cell? ⟨G + 1, 1, none⟩ = some (.int .i64 p) := by rw [HK2.out.cell]; rfl
 have c12 : w1.cell? ⟨G, 2, none⟩ = some (.int .i64 u) := by rw [HK1.out.cell]; rfl
 have c22 : w1.cell? ⟨G + 1, 2, none⟩ = some (.int .i64 u) := by rw [HK2.out.cell]; rfl
 have c13 : w1.cell? ⟨G, 3, none⟩ = some (.int .i64 r) := by rw [HK1.out.cell]; rfl
 have c23 : w1.cell? ⟨G + 1, 3, none⟩ = some (.int .i64 r) := by rw [HK2.out.cell]; rfl
 have c14 : w1.cell? ⟨G, 4, none⟩ = some (.string H) := by rw [HK1.out.cell]; rfl
 have c24 : w1.cell? ⟨G + 1, 4, none⟩ = some (.string H) := by rw [HK2.out.cell]; rfl
 have c15 : w1.cell? ⟨G, 5, none⟩ = some (.int .i64 0) := by rw [HK1.out.cell]; rfl
 have c25 : w1.cell? ⟨G + 1, 5, none⟩ = some (.int .i64 0) := by rw [HK2.out.cell]; rfl
 have fH : (H.toList == H.toList) = true := beq_self_eq_true _
 have hs5 : (Ex.snC s va vv).toList.length = 5 := rfl
 have hs6 : (Ex.snC s vb vu).toList.length = 5 := rfl
 have R1 := Lib.hid (range_seen HK1.out)
 have R2 := Lib.hid (range_seen HK2.out)
 have IS1 : Hid ((Tryz.prog.info? 29).map (·.size) = some (Ex.snC s va vv).toList.length) := Lib.hid (by rw [hs5]; exact Ex.infS)
 have IS2 : Hid ((Tryz.prog.info? 29).map (·.size) = some (Ex.snC s vb vu).toList.length) := Lib.hid (by rw [hs6]; exact Ex.infS)
 clear hs5 hs6
 go_wp2_with (first | (refine He.go_ldM (x := .tmp 46) 29 (Ex.snC s va vv).toList G 6 R1.out Ex.undS rfl IS1.out (by rfl) rfl rfl ?_) | (refine He.go_ldM (x := .tmp 48) 29 (Ex.snC s vb vu).toList (G + 1) 6 R2.out Ex.undS rfl IS2.out (by rfl) rfl rfl ?_))
 refine (Ex.rsame_any s va vv vb vu B1 B2 B3 B4 w1 H1.out H2.out H3.out H4.out).mono ?_
 rintro e w2 ⟨rfl, hb⟩
 have HB2 := Lib.hid (HB0.out.trans (hb.mono HB0.out.size))
 clear hb
 go_wp2_with fail
 go_ret
 exact ⟨rfl, HB2.out⟩
end Go.Proofs.YthfknndjdfofgaaGreatDoor.Tp

/-
 Contracts of package tlspeek's New and Take over this seat's translation.
-/
namespace Go.Proofs.YthfknndjdfofgaaGreatDoor.Tp
open Go.RowKit Go.Proofs.YthfknndjdfofgaaGreatDoor.Wd Go.Proofs.YthfknndjdfofgaaGreatDoor.Rc Go.Proofs.YthfknndjdfofgaaGreatDoor.Sh

set_option maxRecDepth 100000 in
set_option maxHeartbeats 2000000 in
theorem new_any (w : World) : Calls Tryz.prog 12 #[] w fun e w' => ∃ g S, e = .returned (.pointer (some ⟨g, 0, none⟩)) ∧ Pk w' g S T.st ∧ (∀ i ∈ g :: S, w.heap.size ≤ i) ∧ Below w.heap.size w w' := by
 go_enter Tryz.func12, Tryz.ntmps12
 go_wp2_with fail
 refine (Rc.new_any w).mono ?_
 rintro e w1 ⟨rfl, hr, hb⟩
 have HR := Lib.hid hr
 have HB := Lib.hid hb
 have hr0 := Blk.lt hr
 clear hr hb
 go_wp2_with fail
 refine (Sh.new_any w1).mono ?_
 rintro e w2 ⟨rfl, hm, hb2⟩
 have HR2 := Lib.hid (Blk.below HR.out hb2 (Blk.lt HR.out))
 have HB2 := Lib.hid (HB.out.trans (hb2.mono HB.out.size))
 have HM2 := Lib.hid hm
 have hm0 := hm.lt
 have hs1 := HB.out.size
 have hs2 := hb2.size
 clear hm hb2 HR HB
 go_wp2_with fail
 go_ret
 refine ⟨w2.heap.size, [w.heap.size, w1.heap.size], rfl, ⟨OkT.st, Few.none, fun i hi => ?_, .inl ⟨rfl, w.heap.size, w1.heap.size, none, ⟨Blk.new w2 _ _, Blk.alloc HR2.out _, HM2.out.but ((But.refl [] w2).alloc _) (by simp) (by simp)⟩, rfl⟩⟩, fun i hi => ?_, HB2.out.alloc (by omega) _⟩
 · rw [St.alloc_size]
   rcases List.mem_cons.1 hi with hi | hi
   · omega
   · have := List.mem_singleton.1 hi; omega
 · rcases List.mem_cons.1 hi with hi | hi
   · omega
   rcases List.mem_cons.1 hi with hi | hi
   · omega
   · have := List.mem_singleton.1 hi; omega

def TakeP (w : World) (g : Nat) (S : List Nat) (t : T) (e : Ending) (w' : World) : Prop :=
 ∃ S' K va vv, e = .returned (.agg (vC t.z 1 t.u t.r (str8 t.h) t.s va vv)) ∧ Pk w' g S' t ∧ (∀ i ∈ S', i ∈ S ∨ w.heap.size ≤ i) ∧ But (g :: S) w w' ∧ (∀ i ∈ g :: S', i < K) ∧ Ex.RelP w' K va t.s.alpn ∧ Ex.RelV w' K vv t.s.vers

theorem range_pk {w : World} {g t : Nat} {rp mp : Value} {z u r : Int} {H : ByteArray} {s : Ex.Sn} {va vv : Value} (h : Blk w g t (pC rp mp z u r H s va vv)) : w.rangeAt g 2 (vC z 1 u r H s va vv).toList := fun j v hv => by
 rw [h.cell]
 rcases j with _ | _ | _ | _ | _ | _ | _ | _ | _ | _ | _ | j
 all_goals first
   | (exfalso; simp [vC] at hv; done)
   | simpa [vC, pC] using hv
theorem Pk.told {w : World} {g : Nat} {S : List Nat} {t : T} (h : Pk w g S t) : ∃ va vv, w.rangeAt g 2 (vC t.z 1 t.u t.r (str8 t.h) t.s va vv).toList ∧ Ex.RelP w 0 va t.s.alpn ∧ Ex.RelV w 0 vv t.s.vers ∧ (∀ b, va.ownBlock = some b → b ∈ S) ∧ (∀ b, vv.ownBlock = some b → b ∈ S) := by
 rcases h.at_ with ⟨hz, gr, gm, p, h1, rfl⟩ | ⟨hz, va, vv, h1, h2, h3, h4, h5⟩
 · obtain ⟨hh, hs⟩ := h.ok.bare (by omega)
   have hr : t.r = 0 := (h.ok.op hz).2.2.2
   refine ⟨.slice none 0 0, .slice none 0 0, ?_, by rw [hs]; exact relP_nil _ _, by rw [hs]; exact relV_nil _ _, (fun b hb => by cases hb), (fun b hb => by cases hb)⟩
   rw [hh, hs, hr, hz]
   exact range_pk (rp := .pointer (some ⟨gr, 0, none⟩)) (mp := .pointer (some ⟨gm, 0, none⟩)) (show Blk w g _ (pC _ _ 0 (t.u : Int) 0 ⟨#[]⟩ Ex.Sn.zero (.slice none 0 0) (.slice none 0 0)) from h1.blk)
 · exact ⟨va, vv, range_pk h1, h2, h3, h4, h5⟩

set_option linter.unusedSimpArgs false in
set_option maxRecDepth 100000 in
set_option maxHeartbeats 8000000 in
theorem take_any {E : Nat} {w : World} {g : Nat} {S : List Nat} {t : T} (hE : Ad.Env E w) (hEg : ∀ i ∈ g :: S, E ≤ i) (h : Pk w g S t) (hn : t.d.n ≤ 4611686018427387904) (hu : t.u ≤ 4611686018427387904) (c : UInt8) :
   Calls Tryz.prog 13 #[.pointer (some ⟨g, 0, none⟩), .int .u8 (c.toNat : Int)] w (TakeP w g S (stepT t c)) := by
 have hb0 : Below w.heap.size w (w.alloc (.cells #[Value.int .i64 0, .int .i64 0, .int .i64 0, .int .i64 0, .string ⟨#[]⟩, .int .i64 0, .bool false, .string ⟨#[]⟩, .slice none 0 0, .slice none 0 0, .bool false] 31)) := (Below.refl _ _).alloc (Nat.le_refl _) _
 have HP0 := Lib.hid (h.below hb0)
 have HE0 := Lib.hid (hE.on hb0)
 have HV0 := Lib.hid (Blk.new w 31 #[Value.int .i64 0, .int .i64 0, .int .i64 0, .int .i64 0, .string ⟨#[]⟩, .int .i64 0, .bool false, .string ⟨#[]⟩, .slice none 0 0, .slice none 0 0, .bool false])
 have HL0 := Lib.hid h.lts
 have hg0 := h.lt
 have HB0 := Lib.hid ((But.refl (g :: S) w).alloc (.cells #[Value.int .i64 0, .int .i64 0, .int .i64 0, .int .i64 0, .string ⟨#[]⟩, .int .i64 0, .bool false, .string ⟨#[]⟩, .slice none 0 0, .slice none 0 0, .bool false] 31))
 have HEg := Lib.hid hEg
 clear h hE hEg hb0
 -- behind what may be looked at
 have tail : ∀ (w2 : World) (S' : List Nat) (t' : T), Hid (Pk w2 g S' t') → Hid (∀ i ∈ S', i ∈ S ∨ w.heap.size + 1 ≤ i) → Hid (But (g :: S) w w2) → Hid (Blk w2 w.heap.size 31 #[Value.int .i64 0, .int .i64 0, .int .i64 0, .int .i64 0, .string ⟨#[]⟩, .int .i64 0, .bool false, .string ⟨#[]⟩, .slice none 0 0, .slice none 0 0, .bool false]) →
     ∃ va vv, Hid (w2.rangeAt g 2 (vC t'.z 1 t'.u t'.r (str8 t'.h) t'.s va vv).toList) ∧ Hid (Ex.RelP w2 0 va t'.s.alpn) ∧ Hid (Ex.RelV w2 0 vv t'.s.vers) ∧ Hid (∀ va' vv' w3, Ex.RelP w3 w2.heap.size va' t'.s.alpn → Ex.RelV w3 w2.heap.size vv' t'.s.vers → Below w2.heap.size w2 w3 → TakeP w g S t' (.returned (.agg (vC t'.z 1 t'.u t'.r (str8 t'.h) t'.s va' vv'))) (w3.setRow w.heap.size (vC t'.z 1 t'.u t'.r (str8 t'.h) t'.s va' vv')) ∧ Blk w3 w.heap.size 31 #[Value.int .i64 0, .int .i64 0, .int .i64 0, .int .i64 0, .string ⟨#[]⟩, .int .i64 0, .bool false, .string ⟨#[]⟩, .slice none 0 0, .slice none 0 0, .bool false]) := by
   intro w2 S' t' hP hS hB hV
   obtain ⟨va, vv, h1, h2, h3, _, _⟩ := hP.out.told
   refine ⟨va, vv, Lib.hid h1, Lib.hid h2, Lib.hid h3, Lib.hid ?_⟩
   intro va' vv' w3 hA hW hb
   have hV3 := hV.out.below hb hV.out.lt
   have hgr := St.only_row w3 w.heap.size (vC t'.z 1 t'.u t'.r (str8 t'.h) t'.s va' vv')
   have hnot : ∀ i ∈ g :: S', i ≠ w.heap.size := fun i hi => by
     rcases List.mem_cons.1 hi with hi | hi
     · omega
     · rcases hS.out i hi with h | h
       · have := HL0.out i h; omega
       · omega
   have hlt : ∀ i ∈ g :: S', i < w2.heap.size := fun i hi => by
     rcases List.mem_cons.1 hi with hi | hi
     · rw [hi]; exact hP.out.lt
     · exact hP.out.lts i hi
   refine ⟨⟨S', w2.heap.size, va', vv', rfl, (hP.out.below hb).but (but_of hgr) (by simpa using hnot g (by simp)) (fun i hi => by simpa using hnot i (List.mem_cons_of_mem _ hi)), fun i hi => (hS.out i hi).imp id (fun h => by omega), ?_, hlt, hA.off hgr (He.OffT.of_blk hV3 (by decide)), hW.off hgr (He.OffT.of_blk hV3 (by decide))⟩, hV3⟩
   exact (hB.out.trans (But.of_below hb _)).row (.inr (Nat.le_refl _)) _
 have HT := Lib.hid tail
 clear tail
 go_enter Tryz.func13, Tryz.ntmps13
 go_upto_region 1 with fail
 have hsz : (w.alloc (.cells #[Value.int .i64 0, .int .i64 0, .int .i64 0, .int .i64 0, .string ⟨#[]⟩, .int .i64 0, .bool false, .string ⟨#[]⟩, .slice none 0 0, .slice none 0 0, .bool false] 31)).heap.size = w.heap.size + 1 := St.alloc_size _ _
 generalize w.alloc (.cells #[Value.int .i64 0, .int .i64 0, .int .i64 0, .int .i64 0, .string ⟨#[]⟩, .int .i64 0, .bool false, .string ⟨#[]⟩, .slice none 0 0, .slice none 0 0, .bool false] 31) = w1 at *
 have kc := HP0.out.cell
 go_wp2_with fail
 refine (known_any w1 g t.z kc).mono ?_
 rintro e w2 ⟨rfl, rfl⟩
 by_cases hz : t.z = 0
 · have HLk := Lib.hid (look_any HE0.out HEg.out HP0.out hz hn hu c)
   have q1 : decide (t.z ≠ 0) = false := decide_eq_false (fun h => h hz)
   rw [q1]
   clear q1 hz kc
   go_wp2_with fail
   refine HLk.out.mono ?_
   rintro e w2 ⟨rfl, S', hP, hS, hB⟩
   rw [hsz] at hS
   obtain ⟨va, vv, HR, HA, HW, HF⟩ := HT.out w2 S' (stepT t c) (Lib.hid hP) (Lib.hid hS) (Lib.hid (HB0.out.trans hB)) (Lib.hid (HV0.out.but hB (by
     intro hi
     rcases List.mem_cons.1 hi with hi | hi
     · omega
     · have := HL0.out _ hi; omega)))
   have HFw := Lib.hid hP.few
   have hvl : (vC (stepT t c).z 1 (stepT t c).u (stepT t c).r (str8 (stepT t c).h) (stepT t c).s va vv).toList.length = 11 := rfl
   have HIn : Hid ((Tryz.prog.info? 31).map (·.size) = some (vC (stepT t c).z 1 (stepT t c).u (stepT t c).r (str8 (stepT t c).h) (stepT t c).s va vv).toList.length) := Lib.hid (by rw [hvl]; exact infV)
   clear hvl hP hS hB HLk HT HP0 HE0 HV0 HB0 HEg HL0
   generalize stepT t c = t' at *
   go_wp2_with (refine He.go_ldM (x := .tmp 13) 31 (vC t'.z 1 t'.u t'.r (str8 t'.h) t'.s va vv).toList g 2 HR.out undV rfl HIn.out (by rfl) rfl rfl ?_)
   refine (fresh_any t'.z t'.u t'.r (str8 t'.h) t'.s va vv 0 0 w2 (by show t'.h.toArray.size ≤ _; rw [List.size_toArray]; exact HFw.out.h) ⟨HFw.out.n, HFw.out.a⟩ HA.out HW.out).mono ?_
   rintro e w3 ⟨va', vv', rfl, hA, hW, hb⟩
   obtain ⟨Av, cv, rfl⟩ := Ro.OwnE.form hA.1
   obtain ⟨Aw, cw, rfl⟩ := Ro.OwnE.form hW.1
   obtain ⟨hTk, hV3⟩ := HF.out _ _ w3 hA hW hb
   have HTk := Lib.hid hTk
   have HV3 := Lib.hid hV3
   clear hTk hV3 hA hW hb HF HA HW HR
   go_wp2_with (refine He.go_st 31 HV3.out infV rfl (vC_size _ _ _ _ _ _ _ _) (vC_one _ _ _ _ _ _ _ _ _ _ _ _) rfl rfl rfl rfl ?_)
   exact St.ret_one Tryz.results13 (He.setRow_blk HV3.out) undV rfl infV rfl rfl HTk.out rfl
 · have q1 : decide (t.z ≠ 0) = true := decide_eq_true hz
   rw [q1]
   have HZ := Lib.hid (stepT_stay hz c)
   obtain ⟨va, vv, HR, HA, HW, HF⟩ := HT.out w1 S t HP0 (Lib.hid (fun i hi => .inl hi)) HB0 HV0
   have HFw := Lib.hid HP0.out.few
   have hvl : (vC t.z 1 t.u t.r (str8 t.h) t.s va vv).toList.length = 11 := rfl
   have HIn : Hid ((Tryz.prog.info? 31).map (·.size) = some (vC t.z 1 t.u t.r (str8 t.h) t.s va vv).toList.length) := Lib.hid (by rw [hvl]; exact infV)
   clear hvl HT HP0 HE0 HV0 HB0 HEg HL0 q1 kc hz
   go_wp2_with (refine He.go_ldM (x := .tmp 13) 31 (vC t.z 1 t.u t.r (str8 t.h) t.s va vv).toList g 2 HR.out undV rfl HIn.out (by rfl) rfl rfl ?_)
   refine (fresh_any t.z t.u t.r (str8 t.h) t.s va vv 0 0 w1 (by show t.h.toArray.size ≤ _; rw [List.size_toArray]; exact HFw.out.h) ⟨HFw.out.n, HFw.out.a⟩ HA.out HW.out).mono ?_
   rintro e w3 ⟨va', vv', rfl, hA, hW, hb⟩
   obtain ⟨Av, cv, rfl⟩ := Ro.OwnE.form hA.1
   obtain ⟨Aw, cw, rfl⟩ := Ro.OwnE.form hW.1
   obtain ⟨hTk, hV3⟩ := HF.out _ _ w3 hA hW hb
   have HTk := Lib.hid hTk
   have HV3 := Lib.hid hV3
   clear hTk hV3 hA hW hb HF HA HW HR
   go_wp2_with (refine He.go_st 31 HV3.out infV rfl (vC_size _ _ _ _ _ _ _ _) (vC_one _ _ _ _ _ _ _ _ _ _ _ _) rfl rfl rfl rfl ?_)
   exact St.ret_one Tryz.results13 (He.setRow_blk HV3.out) undV rfl infV rfl rfl (by rw [HZ.out]; exact HTk.out) rfl
end Go.Proofs.YthfknndjdfofgaaGreatDoor.Tp
