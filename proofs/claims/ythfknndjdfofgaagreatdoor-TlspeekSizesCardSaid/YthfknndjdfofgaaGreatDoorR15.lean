/-
 Contract over this seat's translation: hagioscope/hagioscoperef09.Ints says that two equal rows are the same.
-/
import Derived.Test.YthfknndjdfofgaaGreatDoorR05
import Derived.RegionTactic
import Derived.Deep.Cut
import Derived.Test.YthfknndjdfofgaaGreatDoorR14
import Derived.Test.YthfknndjdfofgaaGreatDoorR08
import Derived.Test.YthfknndjdfofgaaGreatDoorR13
namespace Go.Proofs.YthfknndjdfofgaaGreatDoor.Ex
open Go.RowKit Go.Proofs.YthfknndjdfofgaaGreatDoor.Wd Go.Proofs.YthfknndjdfofgaaGreatDoor.Be Go.Proofs.YthfknndjdfofgaaGreatDoor.He Go.Proofs.YthfknndjdfofgaaGreatDoor.Ro

set_option maxRecDepth 100000 in
set_option maxHeartbeats 1000000 in
theorem rints_any (A B : Option Addr) (n c d : Nat) (l : List (Int)) (w : World) (h1 : SrcE w elI A l) (h2 : SrcE w elI B l) (hl : l.length = n) (hn : n ≤ 140737488351232) :
   Calls Tryz.prog 42 #[.slice A n c, .slice B n d] w fun e w' => e = .returned (.bool true) ∧ Hid (∃ k, w' = w.drewN k) := by
 have H1 := Lib.hid h1
 have H2 := Lib.hid h2
 have HL := Lib.hid hl
 clear h1 h2 hl
 go_enter Tryz.func42, Tryz.ntmps42
 go_wp2_with fail
 go_loopw [5] (fun i wr => ∃ k, k ≤ n ∧ i = .int .i64 (k : Int) ∧ Hid (∃ j, wr = w.drewN j)) (fun i _ => n - (intOf i).toNat)
 case atStart => exact ⟨0, Nat.zero_le _, rfl, Lib.hid ⟨0, rfl⟩⟩
 case round =>
   obtain ⟨k, hk, rfl, HW⟩ := hrel
   by_cases hlt : k < n
   · have hki : (k : Int) < (n : Int) := by omega
     obtain ⟨x, hx⟩ : ∃ x, l[k]? = some x := ⟨_, List.getElem?_eq_getElem (by have := HL.out; omega)⟩
     obtain ⟨g1, o1, rfl, hg1, hc1⟩ := H1.out k x hx
     obtain ⟨g2, o2, rfl, hg2, hc2⟩ := H2.out k x hx
     have hd1 : wr.cell? ⟨g1, o1 + k, none⟩ = some (.int .i64 x) := by obtain ⟨n0, rfl⟩ := HW.out; have := hc1 0 _ rfl; simpa [elI] using this
     have hd2 : wr.cell? ⟨g2, o2 + k, none⟩ = some (.int .i64 x) := by obtain ⟨n0, rfl⟩ := HW.out; have := hc2 0 _ rfl; simpa [elI] using this
     clear hx hg1 hg2 hc1 hc2
     go_wp2_with fail
     go_quiet (fail)
     go_wp2_with fail
     go_roundw
     case rel => exact ⟨k + 1, by omega, by go_num, Lib.hid (by obtain ⟨j, rfl⟩ := HW.out; exact ⟨_, World.drewN_drewN _ _ _⟩)⟩
     case measure => simp [intOf]; omega
   · obtain rfl : k = n := by omega
     go_wp2_with fail
     go_ret
     exact ⟨rfl, HW⟩
end Go.Proofs.YthfknndjdfofgaaGreatDoor.Ex

/-
 Contract over this seat's translation: hagioscoperef10's Same says that what is seen is the same, if it is equal.
-/
namespace Go.Proofs.YthfknndjdfofgaaGreatDoor.Ex
open Go.RowKit Go.Proofs.YthfknndjdfofgaaGreatDoor.Wd Go.Proofs.YthfknndjdfofgaaGreatDoor.Be Go.Proofs.YthfknndjdfofgaaGreatDoor.He Go.Proofs.YthfknndjdfofgaaGreatDoor.Ro

theorem drewB {w w' : World} (h : ∃ k, w' = w.drewN k) : Below w.heap.size w w' := by
 obtain ⟨k, rfl⟩ := h
 exact ((But.refl [] w).drewN k).below (by simp) (Nat.le_refl _)

set_option maxRecDepth 100000 in
set_option maxHeartbeats 1000000 in
theorem rsame_any (s : Sn) (va vv vb vu : Value) (B1 B2 B3 B4 : Nat) (w : World) (h1 : RelP w B1 va s.alpn) (h2 : RelV w B2 vv s.vers) (h3 : RelP w B3 vb s.alpn) (h4 : RelV w B4 vu s.vers) :
   Calls Tryz.prog 19 #[.agg (snC s va vv), .agg (snC s vb vu)] w fun e w' => e = .returned (.bool true) ∧ Below w.heap.size w w' := by
 obtain ⟨A1, c1, rfl, _, _, s1⟩ := h1.1.src fineS
 obtain ⟨A2, c2, rfl, _, _, s2⟩ := h2.1.src fineI
 obtain ⟨A3, c3, rfl, _, _, s3⟩ := h3.1.src fineS
 obtain ⟨A4, c4, rfl, _, _, s4⟩ := h4.1.src fineI
 have hl1 := h1.2
 have hl2 := h2.2
 have HB := Lib.hid (((Below.refl w.heap.size w).alloc (Nat.le_refl _) (.cells (snC s (.slice A1 s.alpn.length c1) (.slice A2 s.vers.length c2)) 29)).alloc (by simp) (.cells (snC s (.slice A3 s.alpn.length c3) (.slice A4 s.vers.length c4)) 29))
 have b0 := (Blk.new w 29 (snC s (.slice A1 s.alpn.length c1) (.slice A2 s.vers.length c2))).alloc (.cells (snC s (.slice A3 s.alpn.length c3) (.slice A4 s.vers.length c4)) 29)
 have b1 := blk_at (w.alloc (.cells (snC s (.slice A1 s.alpn.length c1) (.slice A2 s.vers.length c2)) 29)) 29 (snC s (.slice A3 s.alpn.length c3) (.slice A4 s.vers.length c4)) _ (w.heap.size + 1) (by rw [alloc_size]) rfl
 have S1 := Lib.hid (s1.below HB.out)
 have S2 := Lib.hid (s2.below HB.out)
 have S3 := Lib.hid (s3.below HB.out)
 have S4 := Lib.hid (s4.below HB.out)
 clear s1 s2 s3 s4 h1 h2 h3 h4
 obtain ⟨ha, nm, al, vs, ech⟩ := s
 simp only at hl1 hl2 S1 S2 S3 S4 HB b0 b1 ⊢
 unfold snC at HB b0 b1 S1 S2 S3 S4 ⊢
 simp only at HB b0 b1 S1 S2 S3 S4 ⊢
 obtain ⟨n1, hn1⟩ : ∃ n, al.length = n := ⟨_, rfl⟩
 obtain ⟨n2, hn2⟩ : ∃ n, vs.length = n := ⟨_, rfl⟩
 rw [hn1] at hl1 HB b0 b1 S1 S2 S3 S4 ⊢
 rw [hn2] at hl2 HB b0 b1 S1 S2 S3 S4 ⊢
 have HN1 := Lib.hid hn1
 have HN2 := Lib.hid hn2
 clear hn1 hn2
 go_enter Tryz.func19, Tryz.ntmps19
 go_upto_region 1 with fail
 generalize (w.alloc (.cells #[.bool ha, .string (str8 nm), .slice A1 n1 c1, .slice A2 n2 c2, .bool ech] 29)).alloc (.cells #[.bool ha, .string (str8 nm), .slice A3 n1 c3, .slice A4 n2 c4, .bool ech] 29) = w0 at *
 have k0 := b0.cell 0
 have k1 := b0.cell 1
 have k2 := b0.cell 2
 have k3 := b0.cell 3
 have k4 := b0.cell 4
 have m0 := b1.cell 0
 have m1 := b1.cell 1
 have m2 := b1.cell 2
 have m3 := b1.cell 3
 have m4 := b1.cell 4
 have B0 := Lib.hid b0
 have B1' := Lib.hid b1
 clear b0 b1
 go_wp2_with fail
 refine (rrows_any A1 A3 n1 c1 c3 al w0 S1.out S3.out HN1.out (by omega)).mono ?_
 rintro e w1 ⟨rfl, hd⟩
 have hb := drewB hd.out
 have b2 := B0.out.below hb B0.out.lt
 have b3 := B1'.out.below hb B1'.out.lt
 have S2' := Lib.hid (S2.out.below hb)
 have S4' := Lib.hid (S4.out.below hb)
 have HB1 := Lib.hid (HB.out.trans (hb.mono HB.out.size))
 clear k0 k1 k2 k3 k4 m0 m1 m2 m3 m4 hd hb B0 B1' HB S1 S2 S3 S4
 have k3 := b2.cell 3
 have k4 := b2.cell 4
 have m3 := b3.cell 3
 have m4 := b3.cell 4
 have B2' := Lib.hid b2
 have B3' := Lib.hid b3
 clear b2 b3
 go_wp2_with fail
 refine (rints_any A2 A4 n2 c2 c4 vs w1 S2'.out S4'.out HN2.out (by omega)).mono ?_
 rintro e w2 ⟨rfl, hd⟩
 have hb := drewB hd.out
 have b2 := B2'.out.below hb B2'.out.lt
 have b3 := B3'.out.below hb B3'.out.lt
 have HB2 := Lib.hid (HB1.out.trans (hb.mono HB1.out.size))
 clear k3 k4 m3 m4 hd hb B2' B3' HB1 S2' S4'
 have k4 := b2.cell 4
 have m4 := b3.cell 4
 clear b2 b3
 go_wp2_with fail
 go_ret
 exact ⟨rfl, HB2.out⟩
end Go.Proofs.YthfknndjdfofgaaGreatDoor.Ex

/-
 Verdicts as they lie in memory: built, loaded and stored whole; the document's own Same of two. Plain lemmas, and a contract; no condition.
-/
namespace Go.Proofs.YthfknndjdfofgaaGreatDoor.Tp
open Go.RowKit Go.Proofs.YthfknndjdfofgaaGreatDoor.Wd

theorem undV : Tryz.prog.underlying 31 = some (.struct (Tryz.prog.fieldsOf 31)) := by kernel_rfl
theorem infV : (Tryz.prog.info? 31).map (·.size) = some 11 := by kernel_rfl
def vC (z p u r : Int) (H : ByteArray) (s : Ex.Sn) (va vv : Value) : Array Value := #[.int .i64 z, .int .i64 p, .int .i64 u, .int .i64 r, .string H, .int .i64 0, .bool s.has, .string (str8 s.name), va, vv, .bool s.ech]
theorem vC_size (z p u r : Int) (H : ByteArray) (s : Ex.Sn) (va vv : Value) : (vC z p u r H s va vv).size = 11 := rfl
theorem vC_one (z p u r : Int) (H : ByteArray) (s : Ex.Sn) (A B : Option Addr) (n m c d : Nat) : (vC z p u r H s (.slice A n c) (.slice B m d)).all (·.oneCell') = true := by simp [vC, Value.oneCell']
theorem seen_size (s : Ex.Sn) (va vv : Value) : (Ex.snC s va vv).size = 5 := rfl
theorem seen_one (s : Ex.Sn) (A B : Option Addr) (n m c d : Nat) : (Ex.snC s (.slice A n c) (.slice B m d)).all (·.oneCell') = true := by simp [Ex.snC, Value.oneCell']
end Go.Proofs.YthfknndjdfofgaaGreatDoor.Tp
