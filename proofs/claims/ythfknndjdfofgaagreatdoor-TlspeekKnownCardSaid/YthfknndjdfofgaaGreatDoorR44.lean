/-
 Contract of the document's own Same of layer 15 (hagioscoperef15): two verdicts that tell the same are the same.
-/
import Derived.Test.YthfknndjdfofgaaGreatDoorR15
import Derived.Test.YthfknndjdfofgaaGreatDoorR21
import Derived.Test.YthfknndjdfofgaaGreatDoorR42
import Derived.Test.YthfknndjdfofgaaGreatDoorR43
namespace Go.Proofs.YthfknndjdfofgaaGreatDoor.Tp
open Go.RowKit Go.Proofs.YthfknndjdfofgaaGreatDoor.Wd

theorem range_seen {w : World} {g t : Nat} {z p u r : Int} {H : ByteArray} {s : Ex.Sn} {va vv : Value} (h : Blk w g t (vC z p u r H s va vv)) : w.rangeAt g 6 (Ex.snC s va vv).toList := fun j v hv => by
 rw [h.cell]
 rcases j with _ | _ | _ | _ | _ | j
 · simpa [Ex.snC, vC] using hv
 · simpa [Ex.snC, vC] using hv
 · simpa [Ex.snC, vC] using hv
 · simpa [Ex.snC, vC] using hv
 · simpa [Ex.snC, vC] using hv
 · simp [Ex.snC] at hv
set_option linter.unusedSimpArgs false in
set_option maxRecDepth 100000 in
set_option maxHeartbeats 8000000 in
theorem samev_any (z p u r : Int) (H : ByteArray) (s : Ex.Sn) (va vv vb vu : Value) (B1 B2 B3 B4 : Nat) (w : World) (h1 : Ex.RelP w B1 va s.alpn) (h2 : Ex.RelV w B2 vv s.vers) (h3 : Ex.RelP w B3 vb s.alpn) (h4 : Ex.RelV w B4 vu s.vers) :
   Calls Tryz.prog 9 #[.agg (vC z p u r H s va vv), .agg (vC z p u r H s vb vu)] w fun e w' => e = .returned (.bool true) ∧ Below w.heap.size w w' := by
 have HB0 : Hid (Below w.heap.size w ((w.alloc (.cells (vC z p u r H s va vv) 31)).alloc (.cells (vC z p u r H s vb vu) 31))) := Lib.hid (((Below.refl _ _).alloc (Nat.le_refl _) _).alloc (by rw [He.alloc_size]; omega) _)
 have HK1 : Hid (Blk ((w.alloc (.cells (vC z p u r H s va vv) 31)).alloc (.cells (vC z p u r H s vb vu) 31)) w.heap.size 31 (vC z p u r H s va vv)) := Lib.hid ((Blk.new w _ _).alloc _)
 have HK2 : Hid (Blk ((w.alloc (.cells (vC z p u r H s va vv) 31)).alloc (.cells (vC z p u r H s vb vu) 31)) (w.heap.size + 1) 31 (vC z p u r H s vb vu)) := Lib.hid (He.blk_at _ _ _ _ _ (by rw [He.alloc_size]) rfl)
 have H1 := Lib.hid (h1.below HB0.out)
 have H2 := Lib.hid (h2.below HB0.out)
 have H3 := Lib.hid (h3.below HB0.out)
 have H4 := Lib.hid (h4.below HB0.out)
 clear h1 h2 h3 h4
 go_enter Tryz.func9, Tryz.ntmps9
 go_upto_region 1 with fail
 generalize (w.alloc (.cells (vC z p u r H s va vv) 31)).alloc (.cells (vC z p u r H s vb vu) 31) = w1 at *
 obtain ⟨G, hG⟩ : ∃ G, w.heap.size = G := ⟨_, rfl⟩
 rw [hG] at HK1 HK2
 rw [hG]
 clear hG
 have c10 : w1.cell? ⟨G, 0, none⟩ = some (.int .i64 z) := by rw [HK1.out.cell]; rfl
 have c20 : w1.cell? ⟨G + 1, 0, none⟩ = some (.int .i64 z) := by rw [HK2.out.cell]; rfl
 have c11 : w1.cell? ⟨G, 1, none⟩ = some (.int .i64 p) := by rw [HK1.out.cell]; rfl
 have c21 : w1.cell? ⟨G + 1, 1, none⟩ = some (.int .i64 p) := by rw [HK2.out.cell]; rfl
 have c12 : w1.cell? ⟨G, 2, none⟩ = some (.int .i64 u) := by rw [HK1.out.cell]; rfl
 have c22 : w1.cell? ⟨G + 1, 2, none⟩ = some (.int .i64 u) := by rw [HK2.out.cell]; rfl
 have c13 : w1.cell? ⟨G, 3, none⟩ = some (.int .i64 r) := by rw [HK1.out.cell]; rfl
 have c23 : w1.cell? ⟨G + 1, 3, none⟩ = some (.int .i64 r) := by rw [HK2.out.cell]; rfl
 have c14 : w1.cell? ⟨G, 4, none⟩ = some (.string H) := by rw [HK1.out.cell]; rfl
 have c24 : w1.cell? ⟨G + 1, 4, none⟩ = some (.string H) := by rw [HK2.out.cell]; rfl
 have c15 : w1.cell? ⟨G, 5, none⟩ = some (.int .i64 0) := by rw [HK1.out.cell]; rfl
 have c25 : w1.cell? ⟨G + 1, 5, none⟩ = some (.int .i64 0) := by rw [HK2.out.cell]; rfl
 have fH : (H.toList == H.toList) = true := beq_self_eq_true _
 have hs5 : (Ex.snC s va vv).toList.length = 5 := rfl
 have hs6 : (Ex.snC s vb vu).toList.length = 5 := rfl
 have R1 := Lib.hid (range_seen HK1.out)
 have R2 := Lib.hid (range_seen HK2.out)
 have IS1 : Hid ((Tryz.prog.info? 29).map (·.size) = some (Ex.snC s va vv).toList.length) := Lib.hid (by rw [hs5]; exact Ex.infS)
 have IS2 : Hid ((Tryz.prog.info? 29).map (·.size) = some (Ex.snC s vb vu).toList.length) := Lib.hid (by rw [hs6]; exact Ex.infS)
 clear hs5 hs6
 go_wp2_with (first | (refine He.go_ldM (x := .tmp 46) 29 (Ex.snC s va vv).toList G 6 R1.out Ex.undS rfl IS1.out (by rfl) rfl rfl ?_) | (refine He.go_ldM (x := .tmp 48) 29 (Ex.snC s vb vu).toList (G + 1) 6 R2.out Ex.undS rfl IS2.out (by rfl) rfl rfl ?_))
 refine (Ex.rsame_any s va vv vb vu B1 B2 B3 B4 w1 H1.out H2.out H3.out H4.out).mono ?_
 rintro e w2 ⟨rfl, hb⟩
 have HB2 := Lib.hid (HB0.out.trans (hb.mono HB0.out.size))
 clear hb
 go_wp2_with fail
 go_ret
 exact ⟨rfl, HB2.out⟩
end Go.Proofs.YthfknndjdfofgaaGreatDoor.Tp

/-
 Contracts of package tlspeek's New and Take over this seat's translation.
-/
namespace Go.Proofs.YthfknndjdfofgaaGreatDoor.Tp
open Go.RowKit Go.Proofs.YthfknndjdfofgaaGreatDoor.Wd Go.Proofs.YthfknndjdfofgaaGreatDoor.Rc Go.Proofs.YthfknndjdfofgaaGreatDoor.Sh

set_option maxRecDepth 100000 in
set_option maxHeartbeats 2000000 in
theorem new_any (w : World) : Calls Tryz.prog 12 #[] w fun e w' => ∃ g S, e = .returned (.pointer (some ⟨g, 0, none⟩)) ∧ Pk w' g S T.st ∧ (∀ i ∈ g :: S, w.heap.size ≤ i) ∧ Below w.heap.size w w' := by
 go_enter Tryz.func12, Tryz.ntmps12
 go_wp2_with fail
 refine (Rc.new_any w).mono ?_
 rintro e w1 ⟨rfl, hr, hb⟩
 have HR := Lib.hid hr
 have HB := Lib.hid hb
 have hr0 := Blk.lt hr
 clear hr hb
 go_wp2_with fail
 refine (Sh.new_any w1).mono ?_
 rintro e w2 ⟨rfl, hm, hb2⟩
 have HR2 := Lib.hid (Blk.below HR.out hb2 (Blk.lt HR.out))
 have HB2 := Lib.hid (HB.out.trans (hb2.mono HB.out.size))
 have HM2 := Lib.hid hm
 have hm0 := hm.lt
 have hs1 := HB.out.size
 have hs2 := hb2.size
 clear hm hb2 HR HB
 go_wp2_with fail
 go_ret
 refine ⟨w2.heap.size, [w.heap.size, w1.heap.size], rfl, ⟨OkT.st, Few.none, fun i hi => ?_, .inl ⟨rfl, w.heap.size, w1.heap.size, none, ⟨Blk.new w2 _ _, Blk.alloc HR2.out _, HM2.out.but ((But.refl [] w2).alloc _) (by simp) (by simp)⟩, rfl⟩⟩, fun i hi => ?_, HB2.out.alloc (by omega) _⟩
 · rw [St.alloc_size]
   rcases List.mem_cons.1 hi with hi | hi
   · omega
   · have := List.mem_singleton.1 hi; omega
 · rcases List.mem_cons.1 hi with hi | hi
   · omega
   rcases List.mem_cons.1 hi with hi | hi
   · omega
   · have := List.mem_singleton.1 hi; omega

def TakeP (w : World) (g : Nat) (S : List Nat) (t : T) (e : Ending) (w' : World) : Prop :=
 ∃ S' K va vv, e = .returned (.agg (vC t.z 1 t.u t.r (str8 t.h) t.s va vv)) ∧ Pk w' g S' t ∧ (∀ i ∈ S', i ∈ S ∨ w.heap.size ≤ i) ∧ But (g :: S) w w' ∧ (∀ i ∈ g :: S', i < K) ∧ Ex.RelP w' K va t.s.alpn ∧ Ex.RelV w' K vv t.s.vers

theorem range_pk {w : World} {g t : Nat} {rp mp : Value} {z u r : Int} {H : ByteArray} {s : Ex.Sn} {va vv : Value} (h : Blk w g t (pC rp mp z u r H s va vv)) : w.rangeAt g 2 (vC z 1 u r H s va vv).toList := fun j v hv => by
 rw [h.cell]
 rcases j with _ | _ | _ | _ | _ | _ | _ | _ | _ | _ | _ | j
 all_goals first
   | (exfalso; simp [vC] at hv; done)
   | simpa [vC, pC] using hv
theorem Pk.told {w : World} {g : Nat} {S : List Nat} {t : T} (h : Pk w g S t) : ∃ va vv, w.rangeAt g 2 (vC t.z 1 t.u t.r (str8 t.h) t.s va vv).toList ∧ Ex.RelP w 0 va t.s.alpn ∧ Ex.RelV w 0 vv t.s.vers ∧ (∀ b, va.ownBlock = some b → b ∈ S) ∧ (∀ b, vv.ownBlock = some b → b ∈ S) := by
 rcases h.at_ with ⟨hz, gr, gm, p, h1, rfl⟩ | ⟨hz, va, vv, h1, h2, h3, h4, h5⟩
 · obtain ⟨hh, hs⟩ := h.ok.bare (by omega)
   have hr : t.r = 0 := (h.ok.op hz).2.2.2
   refine ⟨.slice none 0 0, .slice none 0 0, ?_, by rw [hs]; exact relP_nil _ _, by rw [hs]; exact relV_nil _ _, (fun b hb => by cases hb), (fun b hb => by cases hb)⟩
   rw [hh, hs, hr, hz]
   exact range_pk (rp := .pointer (some ⟨gr, 0, none⟩)) (mp := .pointer (some ⟨gm, 0, none⟩)) (show Blk w g _ (pC _ _ 0 (t.u : Int) 0 ⟨#[]⟩ Ex.Sn.zero (.slice none 0 0) (.slice none 0 0)) from h1.blk)
 · exact ⟨va, vv, range_pk h1, h2, h3, h4, h5⟩

set_option linter.unusedSimpArgs false in
set_option maxRecDepth 100000 in
set_option maxHeartbeats 8000000 in
theorem take_any {E : Nat} {w : World} {g : Nat} {S : List Nat} {t : T} (hE : Ad.Env E w) (hEg : ∀ i ∈ g :: S, E ≤ i) (h : Pk w g S t) (hn : t.d.n ≤ 4611686018427387904) (hu : t.u ≤ 4611686018427387904) (c : UInt8) :
   Calls Tryz.prog 13 #[.pointer (some ⟨g, 0, none⟩), .int .u8 (c.toNat : Int)] w (TakeP w g S (stepT t c)) := by
 have hb0 : Below w.heap.size w (w.alloc (.cells #[Value.int .i64 0, .int .i64 0, .int .i64 0, .int .i64 0, .string ⟨#[]⟩, .int .i64 0, .bool false, .string ⟨#[]⟩, .slice none 0 0, .slice none 0 0, .bool false] 31)) := (Below.refl _ _).alloc (Nat.le_refl _) _
 have HP0 := Lib.hid (h.below hb0)
 have HE0 := Lib.hid (hE.on hb0)
 have HV0 := Lib.hid (Blk.new w 31 #[Value.int .i64 0, .int .i64 0, .int .i64 0, .int .i64 0, .string ⟨#[]⟩, .int .i64 0, .bool false, .string ⟨#[]⟩, .slice none 0 0, .slice none 0 0, .bool false])
 have HL0 := Lib.hid h.lts
 have hg0 := h.lt
 have HB0 := Lib.hid ((But.refl (g :: S) w).alloc (.cells #[Value.int .i64 0, .int .i64 0, .int .i64 0, .int .i64 0, .string ⟨#[]⟩, .int .i64 0, .bool false, .string ⟨#[]⟩, .slice none 0 0, .slice none 0 0, .bool false] 31))
 have HEg := Lib.hid hEg
 clear h hE hEg hb0
 -- behind what may be looked at
 have tail : ∀ (w2 : World) (S' : List Nat) (t' : T), Hid (Pk w2 g S' t') → Hid (∀ i ∈ S', i ∈ S ∨ w.heap.size + 1 ≤ i) → Hid (But (g :: S) w w2) → Hid (Blk w2 w.heap.size 31 #[Value.int .i64 0, .int .i64 0, .int .i64 0, .int .i64 0, .string ⟨#[]⟩, .int .i64 0, .bool false, .string ⟨#[]⟩, .slice none 0 0, .slice none 0 0, .bool false]) →
     ∃ va vv, Hid (w2.rangeAt g 2 (vC t'.z 1 t'.u t'.r (str8 t'.h) t'.s va vv).toList) ∧ Hid (Ex.RelP w2 0 va t'.s.alpn) ∧ Hid (Ex.RelV w2 0 vv t'.s.vers) ∧ Hid (∀ va' vv' w3, Ex.RelP w3 w2.heap.size va' t'.s.alpn → Ex.RelV w3 w2.heap.size vv' t'.s.vers → Below w2.heap.size w2 w3 → TakeP w g S t' (.returned (.agg (vC t'.z 1 t'.u t'.r (str8 t'.h) t'.s va' vv'))) (w3.setRow w.heap.size (vC t'.z 1 t'.u t'.r (str8 t'.h) t'.s va' vv')) ∧ Blk w3 w.heap.size 31 #[Value.int .i64 0, .int .i64 0, .int .i64 0, .int .i64 0, .string ⟨#[]⟩, .int .i64 0, .bool false, .string ⟨#[]⟩, .slice none 0 0, .slice none 0 0, .bool false]) := by
   intro w2 S' t' hP hS hB hV
   obtain ⟨va, vv, h1, h2, h3, _, _⟩ := hP.out.told
   refine ⟨va, vv, Lib.hid h1, Lib.hid h2, Lib.hid h3, Lib.hid ?_⟩
   intro va' vv' w3 hA hW hb
   have hV3 := hV.out.below hb hV.out.lt
   have hgr := St.only_row w3 w.heap.size (vC t'.z 1 t'.u t'.r (str8 t'.h) t'.s va' vv')
   have hnot : ∀ i ∈ g :: S', i ≠ w.heap.size := fun i hi => by
     rcases List.mem_cons.1 hi with hi | hi
     · omega
     · rcases hS.out i hi with h | h
       · have := HL0.out i h; omega
       · omega
   have hlt : ∀ i ∈ g :: S', i < w2.heap.size := fun i hi => by
     rcases List.mem_cons.1 hi with hi | hi
     · rw [hi]; exact hP.out.lt
     · exact hP.out.lts i hi
   refine ⟨⟨S', w2.heap.size, va', vv', rfl, (hP.out.below hb).but (but_of hgr) (by simpa using hnot g (by simp)) (fun i hi => by simpa using hnot i (List.mem_cons_of_mem _ hi)), fun i hi => (hS.out i hi).imp id (fun h => by omega), ?_, hlt, hA.off hgr (He.OffT.of_blk hV3 (by decide)), hW.off hgr (He.OffT.of_blk hV3 (by decide))⟩, hV3⟩
   exact (hB.out.trans (But.of_below hb _)).row (.inr (Nat.le_refl _)) _
 have HT := Lib.hid tail
 clear tail
 go_enter Tryz.func13, Tryz.ntmps13
 go_upto_region 1 with fail
 have hsz : (w.alloc (.cells #[Value.int .i64 0, .int .i64 0, .int .i64 0, .int .i64 0, .string ⟨#[]⟩, .int .i64 0, .bool false, .string ⟨#[]⟩, .slice none 0 0, .slice none 0 0, .bool false] 31)).heap.size = w.heap.size + 1 := St.alloc_size _ _
 generalize w.alloc (.cells #[Value.int .i64 0, .int .i64 0, .int .i64 0, .int .i64 0, .string ⟨#[]⟩, .int .i64 0, .bool false, .string ⟨#[]⟩, .slice none 0 0, .slice none 0 0, .bool false] 31) = w1 at *
 have kc := HP0.out.cell
 go_wp2_with fail
 refine (known_any w1 g t.z kc).mono ?_
 rintro e w2 ⟨rfl, rfl⟩
 by_cases hz : t.z = 0
 · have HLk := Lib.hid (look_any HE0.out HEg.out HP0.out hz hn hu c)
   have q1 : decide (t.z ≠ 0) = false := decide_eq_false (fun h => h hz)
   rw [q1]
   clear q1 hz kc
   go_wp2_with fail
   refine HLk.out.mono ?_
   rintro e w2 ⟨rfl, S', hP, hS, hB⟩
   rw [hsz] at hS
   obtain ⟨va, vv, HR, HA, HW, HF⟩ := HT.out w2 S' (stepT t c) (Lib.hid hP) (Lib.hid hS) (Lib.hid (HB0.out.trans hB)) (Lib.hid (HV0.out.but hB (by
     intro hi
     rcases List.mem_cons.1 hi with hi | hi
     · omega
     · have := HL0.out _ hi; omega)))
   have HFw := Lib.hid hP.few
   have hvl : (vC (stepT t c).z 1 (stepT t c).u (stepT t c).r (str8 (stepT t c).h) (stepT t c).s va vv).toList.length = 11 := rfl
   have HIn : Hid ((Tryz.prog.info? 31).map (·.size) = some (vC (stepT t c).z 1 (stepT t c).u (stepT t c).r (str8 (stepT t c).h) (stepT t c).s va vv).toList.length) := Lib.hid (by rw [hvl]; exact infV)
   clear hvl hP hS hB HLk HT HP0 HE0 HV0 HB0 HEg HL0
   generalize stepT t c = t' at *
   go_wp2_with (refine He.go_ldM (x := .tmp 13) 31 (vC t'.z 1 t'.u t'.r (str8 t'.h) t'.s va vv).toList g 2 HR.out undV rfl HIn.out (by rfl) rfl rfl ?_)
   refine (fresh_any t'.z t'.u t'.r (str8 t'.h) t'.s va vv 0 0 w2 (by show t'.h.toArray.size ≤ _; rw [List.size_toArray]; exact HFw.out.h) ⟨HFw.out.n, HFw.out.a⟩ HA.out HW.out).mono ?_
   rintro e w3 ⟨va', vv', rfl, hA, hW, hb⟩
   obtain ⟨Av, cv, rfl⟩ := Ro.OwnE.form hA.1
   obtain ⟨Aw, cw, rfl⟩ := Ro.OwnE.form hW.1
   obtain ⟨hTk, hV3⟩ := HF.out _ _ w3 hA hW hb
   have HTk := Lib.hid hTk
   have HV3 := Lib.hid hV3
   clear hTk hV3 hA hW hb HF HA HW HR
   go_wp2_with (refine He.go_st 31 HV3.out infV rfl (vC_size _ _ _ _ _ _ _ _) (vC_one _ _ _ _ _ _ _ _ _ _ _ _) rfl rfl rfl rfl ?_)
   exact St.ret_one Tryz.results13 (He.setRow_blk HV3.out) undV rfl infV rfl rfl HTk.out rfl
 · have q1 : decide (t.z ≠ 0) = true := decide_eq_true hz
   rw [q1]
   have HZ := Lib.hid (stepT_stay hz c)
   obtain ⟨va, vv, HR, HA, HW, HF⟩ := HT.out w1 S t HP0 (Lib.hid (fun i hi => .inl hi)) HB0 HV0
   have HFw := Lib.hid HP0.out.few
   have hvl : (vC t.z 1 t.u t.r (str8 t.h) t.s va vv).toList.length = 11 := rfl
   have HIn : Hid ((Tryz.prog.info? 31).map (·.size) = some (vC t.z 1 t.u t.r (str8 t.h) t.s va vv).toList.length) := Lib.hid (by rw [hvl]; exact infV)
   clear hvl HT HP0 HE0 HV0 HB0 HEg HL0 q1 kc hz
   go_wp2_with (refine He.go_ldM (x := .tmp 13) 31 (vC t.z 1 t.u t.r (str8 t.h) t.s va vv).toList g 2 HR.out undV rfl HIn.out (by rfl) rfl rfl ?_)
   refine (fresh_any t.z t.u t.r (str8 t.h) t.s va vv 0 0 w1 (by show t.h.toArray.size ≤ _; rw [List.size_toArray]; exact HFw.out.h) ⟨HFw.out.n, HFw.out.a⟩ HA.out HW.out).mono ?_
   rintro e w3 ⟨va', vv', rfl, hA, hW, hb⟩
   obtain ⟨Av, cv, rfl⟩ := Ro.OwnE.form hA.1
   obtain ⟨Aw, cw, rfl⟩ := Ro.OwnE.form hW.1
   obtain ⟨hTk, hV3⟩ := HF.out _ _ w3 hA hW hb
   have HTk := Lib.hid hTk
   have HV3 := Lib.hid hV3
   clear hTk hV3 hA hW hb HF HA HW HR
   go_wp2_with (refine He.go_st 31 HV3.out infV rfl (vC_size _ _ _ _ _ _ _ _) (vC_one _ _ _ _ _ _ _ _ _ _ _ _) rfl rfl rfl rfl ?_)
   exact St.ret_one Tryz.results13 (He.setRow_blk HV3.out) undV rfl infV rfl rfl (by rw [HZ.out]; exact HTk.out) rfl
end Go.Proofs.YthfknndjdfofgaaGreatDoor.Tp

/-
 Contract of package tlspeek's All over this seat's translation: it answers what allT says.
-/
namespace Go.Proofs.YthfknndjdfofgaaGreatDoor.Tp
open Go.RowKit Go.Proofs.YthfknndjdfofgaaGreatDoor.Wd Go.Proofs.YthfknndjdfofgaaGreatDoor.Rc Go.Proofs.YthfknndjdfofgaaGreatDoor.Sh

structure AllAt (w : World) (G g : Nat) (S : List Nat) (t : T) (wr : World) : Prop where
 pk : Pk wr g S t
 far : ∀ i ∈ g :: S, G < i
 res : Blk wr G 31 #[Value.int .i64 0, .int .i64 0, .int .i64 0, .int .i64 0, .string ⟨#[]⟩, .int .i64 0, .bool false, .string ⟨#[]⟩, .slice none 0 0, .slice none 0 0, .bool false]
 bel : Below G w wr

set_option linter.unusedSimpArgs false in
set_option maxRecDepth 100000 in
set_option maxHeartbeats 8000000 in
theorem all_any {B : Nat} (A : Option Addr) (n cap : Nat) (xs : List UInt8) (w : World) (hE : Ad.Env B w) (hs : Src w A n xs) (hn : n ≤ 1000000) :
   Calls Tryz.prog 10 #[.slice A n cap] w (AllP xs w) := by
 have HE := Lib.hid hE
 have HS := Lib.hid hs
 have hnl := hs.1
 have HNL := Lib.hid hnl
 have HV0 := Lib.hid (Blk.new w 31 #[Value.int .i64 0, .int .i64 0, .int .i64 0, .int .i64 0, .string ⟨#[]⟩, .int .i64 0, .bool false, .string ⟨#[]⟩, .slice none 0 0, .slice none 0 0, .bool false])
 have HB0 : Hid (Below w.heap.size w (w.alloc (.cells #[Value.int .i64 0, .int .i64 0, .int .i64 0, .int .i64 0, .string ⟨#[]⟩, .int .i64 0, .bool false, .string ⟨#[]⟩, .slice none 0 0, .slice none 0 0, .bool false] 31))) := Lib.hid ((Below.refl _ _).alloc (Nat.le_refl _) _)
 clear hs hnl hE
 go_enter Tryz.func10, Tryz.ntmps10
 go_upto_region 1 with fail
 have hsz : (w.alloc (.cells #[Value.int .i64 0, .int .i64 0, .int .i64 0, .int .i64 0, .string ⟨#[]⟩, .int .i64 0, .bool false, .string ⟨#[]⟩, .slice none 0 0, .slice none 0 0, .bool false] 31)).heap.size = w.heap.size + 1 := St.alloc_size _ _
 generalize w.alloc (.cells #[Value.int .i64 0, .int .i64 0, .int .i64 0, .int .i64 0, .string ⟨#[]⟩, .int .i64 0, .bool false, .string ⟨#[]⟩, .slice none 0 0, .slice none 0 0, .bool false] 31) = w1 at *
 obtain ⟨G, hG⟩ : ∃ G, w.heap.size = G := ⟨_, rfl⟩
 have HG := Lib.hid hG
 have hBG : B ≤ G := by have := HE.out.le; omega
 rw [hG] at HV0 HB0 hsz ⊢
 clear hG
 go_wp2_with fail
 refine (new_any w1).mono ?_
 rintro e w2 ⟨g, S, rfl, hP, hfar, hb⟩
 have HA0 : Hid (AllAt w G g S (allT (xs.take 0)) w2) := Lib.hid ⟨hP, fun i hi => by have := hfar i hi; omega, HV0.out.below hb HV0.out.lt, HB0.out.trans (hb.mono (by omega))⟩
 clear hP hfar hb HV0 HB0 hsz
 go_wp2_with fail
 go_loopw [9] (fun i wr => ∃ k : Nat, k ≤ n ∧ i = .int .i64 (k : Int) ∧ Hid (∃ S, AllAt w G g S (allT (xs.take k)) wr)) (fun i _ => n - (intOf i).toNat)
 case atStart => exact ⟨0, Nat.zero_le _, rfl, Lib.hid ⟨S, HA0.out⟩⟩
 case round =>
   clear HA0
   obtain ⟨k, hk, rfl, HA⟩ := hrel
   obtain ⟨S, hA⟩ := HA.out
   have HA := Lib.hid hA
   clear hA
   by_cases hlt : k < n
   · have hki : (k : Int) < (n : Int) := by omega
     obtain ⟨ad, rfl, hadb, hc⟩ := HS.out.2 (by omega)
     obtain ⟨c, hx⟩ : ∃ c, xs[k]? = some c := ⟨_, List.getElem?_eq_getElem (by have := HNL.out; omega)⟩
     have hcell : wr.cell? (ad.add k) = some (.int .u8 (c.toNat : Int)) := (HA.out.bel.cell (by rw [block_of_add, ← HG.out]; exact hadb)).trans (hc k c hx)
     have HNx := Lib.hid (allT_next hx)
     have HX := Lib.hid hx
     have hdn : (allT (xs.take k)).d.n ≤ 4611686018427387904 := by
       have h := allT_n (xs.take k)
       rw [List.length_take] at h
       omega
     have hun : (allT (xs.take k)).u ≤ 4611686018427387904 := by
       have h := allT_u (xs.take k)
       rw [List.length_take] at h
       omega
     have hall : (allT (xs.take k)).z ≠ 0 → allT xs = allT (xs.take k) := fun h => by
       have := (known h).2.2.2 (xs.drop k)
       rwa [List.take_append_drop] at this
     have HAll := Lib.hid hall
     have kc := HA.out.pk.cell
     clear hc hx hall
     go_wp2_with fail
     refine (known_any wr g _ kc).mono ?_
     rintro e w3 ⟨rfl, rfl⟩
     by_cases hz : (allT (xs.take k)).z = 0
     · have HLk := Lib.hid (look_any (HE.out.on (HA.out.bel.mono (by rw [HG.out]; exact Nat.le_refl _))) (fun i hi => by have := HA.out.far i hi; omega) HA.out.pk hz hdn hun c)
       rw [← HNx.out] at HLk
       have q1 : decide ((allT (xs.take k)).z ≠ 0) = false := decide_eq_false (fun h => h hz)
       rw [q1]
       clear q1 hz kc HAll
       go_wp2_with fail
       refine HLk.out.mono ?_
       rintro e w4 ⟨rfl, S', hP, hS, hB⟩
       have hGw : G < wr.heap.size := HA.out.res.lt
       have HN : Hid (AllAt w G g S' (allT (xs.take (k + 1))) w4) := Lib.hid ⟨hP, fun i hi => by
           rcases List.mem_cons.1 hi with hi | hi
           · rw [hi]; exact HA.out.far g (by simp)
           · rcases hS i hi with h | h
             · exact HA.out.far i (List.mem_cons_of_mem _ h)
             · omega, HA.out.res.but hB (fun hi => Nat.lt_irrefl _ (HA.out.far G hi)), HA.out.bel.trans (hB.below (fun i hi => Nat.le_of_lt (HA.out.far i hi)) (Nat.le_of_lt hGw))⟩
       clear hP hS hB hGw HA HLk
       go_wp2_with fail
       go_roundw
       case rel => exact ⟨k + 1, hlt, by go_num, Lib.hid ⟨S', HN.out⟩⟩
       case measure => simp [intOf]; omega
     · have q1 : decide ((allT (xs.take k)).z ≠ 0) = true := decide_eq_true hz
       rw [q1]
       have HT : Hid (AllAt w G g S (allT xs) wr) := Lib.hid (by rw [HAll.out hz]; exact HA.out)
       clear q1 hz kc HAll HA HNx HX hcell hdn hun
       obtain ⟨va, vv, hR, hA, hW, hqa, hqv⟩ := HT.out.pk.told
       have HR := Lib.hid hR
       have hup : ∀ i ∈ S, G ≤ i := fun i hi => by have := HT.out.far i (List.mem_cons_of_mem _ hi); omega
       have HAv := Lib.hid (show Ex.RelP wr G va (allT xs).s.alpn from ⟨ownE_up hA.1 (fun b hb => hup b (hqa b hb)), hA.2⟩)
       have HWv := Lib.hid (show Ex.RelV wr G vv (allT xs).s.vers from ⟨ownE_up hW.1 (fun b hb => hup b (hqv b hb)), hW.2⟩)
       have HVb := Lib.hid HT.out.res
       have HBl := Lib.hid HT.out.bel
       obtain ⟨Av, cv, rfl⟩ := Ro.OwnE.form HAv.out.1
       obtain ⟨Aw, cw, rfl⟩ := Ro.OwnE.form HWv.out.1
       have hvl : (vC (allT xs).z 1 (allT xs).u (allT xs).r (str8 (allT xs).h) (allT xs).s (.slice Av (allT xs).s.alpn.length cv) (.slice Aw (allT xs).s.vers.length cw)).toList.length = 11 := rfl
       have HIn : Hid ((Tryz.prog.info? 31).map (·.size) = some (vC (allT xs).z 1 (allT xs).u (allT xs).r (str8 (allT xs).h) (allT xs).s (.slice Av (allT xs).s.alpn.length cv) (.slice Aw (allT xs).s.vers.length cw)).toList.length) := Lib.hid (by rw [hvl]; exact infV)
       have HFin : Hid (∀ w', Ex.RelP w' G (.slice Av (allT xs).s.alpn.length cv) (allT xs).s.alpn → Ex.RelV w' G (.slice Aw (allT xs).s.vers.length cw) (allT xs).s.vers → Below G w w' → AllP xs w (.returned (.agg (vC (allT xs).z 1 (allT xs).u (allT xs).r (str8 (allT xs).h) (allT xs).s (.slice Av (allT xs).s.alpn.length cv) (.slice Aw (allT xs).s.vers.length cw)))) w') := Lib.hid (fun w' h1 h2 h3 => ⟨_, _, rfl, by rw [HG.out]; exact h1, by rw [HG.out]; exact h2, by rw [HG.out]; exact h3⟩)
       clear hvl hR hA hW hqa hqv hup HT
       generalize allT xs = t at *
       go_wp2_with (first | (refine He.go_ldM (x := .tmp 21) 31 (vC t.z 1 t.u t.r (str8 t.h) t.s (.slice Av t.s.alpn.length cv) (.slice Aw t.s.vers.length cw)).toList g 2 HR.out undV rfl HIn.out (by rfl) rfl rfl ?_) | (refine He.go_st 31 HVb.out infV rfl (vC_size _ _ _ _ _ _ _ _) (vC_one _ _ _ _ _ _ _ _ _ _ _ _) rfl rfl rfl rfl ?_))
       refine St.ret_one Tryz.results10 (He.setRow_blk HVb.out) undV rfl infV rfl rfl ?_ rfl
       exact HFin.out _ (HAv.out.off (St.only_row _ _ _) (He.OffT.of_blk HVb.out (by decide))) (HWv.out.off (St.only_row _ _ _) (He.OffT.of_blk HVb.out (by decide))) (He.setRow_below HBl.out (Nat.le_refl _) _)
   · obtain rfl : k = n := by omega
     have ht : xs.take k = xs := List.take_of_length_le (by rw [HNL.out]; exact Nat.le_refl _)
     rw [ht] at HA
     have HT : Hid (AllAt w G g S (allT xs) wr) := HA
     clear ht HA
     obtain ⟨va, vv, hR, hA, hW, hqa, hqv⟩ := HT.out.pk.told
     have HR := Lib.hid hR
     have hup : ∀ i ∈ S, G ≤ i := fun i hi => by have := HT.out.far i (List.mem_cons_of_mem _ hi); omega
     have HAv := Lib.hid (show Ex.RelP wr G va (allT xs).s.alpn from ⟨ownE_up hA.1 (fun b hb => hup b (hqa b hb)), hA.2⟩)
     have HWv := Lib.hid (show Ex.RelV wr G vv (allT xs).s.vers from ⟨ownE_up hW.1 (fun b hb => hup b (hqv b hb)), hW.2⟩)
     have HVb := Lib.hid HT.out.res
     have HBl := Lib.hid HT.out.bel
     obtain ⟨Av, cv, rfl⟩ := Ro.OwnE.form HAv.out.1
     obtain ⟨Aw, cw, rfl⟩ := Ro.OwnE.form HWv.out.1
     have hvl : (vC (allT xs).z 1 (allT xs).u (allT xs).r (str8 (allT xs).h) (allT xs).s (.slice Av (allT xs).s.alpn.length cv) (.slice Aw (allT xs).s.vers.length cw)).toList.length = 11 := rfl
     have HIn : Hid ((Tryz.prog.info? 31).map (·.size) = some (vC (allT xs).z 1 (allT xs).u (allT xs).r (str8 (allT xs).h) (allT xs).s (.slice Av (allT xs).s.alpn.length cv) (.slice Aw (allT xs).s.vers.length cw)).toList.length) := Lib.hid (by rw [hvl]; exact infV)
     have HFin : Hid (∀ w', Ex.RelP w' G (.slice Av (allT xs).s.alpn.length cv) (allT xs).s.alpn → Ex.RelV w' G (.slice Aw (allT xs).s.vers.length cw) (allT xs).s.vers → Below G w w' → AllP xs w (.returned (.agg (vC (allT xs).z 1 (allT xs).u (allT xs).r (str8 (allT xs).h) (allT xs).s (.slice Av (allT xs).s.alpn.length cv) (.slice Aw (allT xs).s.vers.length cw)))) w') := Lib.hid (fun w' h1 h2 h3 => ⟨_, _, rfl, by rw [HG.out]; exact h1, by rw [HG.out]; exact h2, by rw [HG.out]; exact h3⟩)
     clear hvl hR hA hW hqa hqv hup HT
     generalize allT xs = t at *
     go_wp2_with (first | (refine He.go_ldM (x := .tmp 21) 31 (vC t.z 1 t.u t.r (str8 t.h) t.s (.slice Av t.s.alpn.length cv) (.slice Aw t.s.vers.length cw)).toList g 2 HR.out undV rfl HIn.out (by rfl) rfl rfl ?_) | (refine He.go_st 31 HVb.out infV rfl (vC_size _ _ _ _ _ _ _ _) (vC_one _ _ _ _ _ _ _ _ _ _ _ _) rfl rfl rfl rfl ?_))
     refine St.ret_one Tryz.results10 (He.setRow_blk HVb.out) undV rfl infV rfl rfl ?_ rfl
     exact HFin.out _ (HAv.out.off (St.only_row _ _ _) (He.OffT.of_blk HVb.out (by decide))) (HWv.out.off (St.only_row _ _ _) (He.OffT.of_blk HVb.out (by decide))) (He.setRow_below HBl.out (Nat.le_refl _) _)
end Go.Proofs.YthfknndjdfofgaaGreatDoor.Tp
