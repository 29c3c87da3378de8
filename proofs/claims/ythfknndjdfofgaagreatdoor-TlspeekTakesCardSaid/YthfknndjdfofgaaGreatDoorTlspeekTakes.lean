/-
 TlspeekTakes: what package tlspeek's peeker tells of bytes, one by one, is what the document tells of all of them, also where what it told ahead was written over; else the small case comes out right. Conditions: none beyond the statement's own.
-/
import Derived.Test.YthfknndjdfofgaaGreatDoorQ50
import Derived.Test.YthfknndjdfofgaaGreatDoorCards
import Derived.Test.YthfknndjdfofgaaGreatDoorTie
set_option maxRecDepth 100000
namespace Go.Proofs.YthfknndjdfofgaaGreatDoor.tlspeekTakes
open Go.ChangeMaps (open_string shut_string)
open Go.ChangeShapes Go.WideShapes Go.ChangeAt Go.RowKit Go.Proofs.YthfknndjdfofgaaGreatDoor.Wd Go.Proofs.YthfknndjdfofgaaGreatDoor.Tp Go.Proofs.YthfknndjdfofgaaGreatDoor.Lift

def RowT (w : World) (K : Nat) (v : Value) (n t : Nat) : Prop := n = 0 ∨ ∃ q cap cur, v = .slice (some ⟨q, 0, none⟩) n cap ∧ K ≤ q ∧ Blk w q t cur ∧ n ≤ cur.size
theorem RowT.of {α : Type} {e : Ro.El α} {w : World} {K : Nat} {v : Value} {l : List α} (h : Ro.OwnE w e K v l) (he : e.n = 1) : RowT w K v l.length e.ty := by
 rcases h.row with ⟨rfl, rfl⟩ | ⟨q, cap, cur, rfl, hq, hb, hc, _, hz, _⟩
 · exact .inl rfl
 · exact .inr ⟨q, cap, cur, rfl, hq, hb, by rw [hz, he, Nat.mul_one]; exact hc⟩
theorem blk_set {w : World} {a t : Nat} {cur : Array Value} (h : Blk w a t cur) (q j : Nat) (u : Value) : ∃ cur', Blk (w.setCell ⟨q, j, none⟩ u) a t cur' ∧ cur'.size = cur.size := by
 by_cases e : a = q
 · subst e
   exact ⟨_, h.set_ j u, Array.size_setIfInBounds⟩
 · exact ⟨cur, h.far (p := ⟨q, j, none⟩) e u, rfl⟩
theorem RowT.set_ {w : World} {K : Nat} {v : Value} {n t : Nat} (h : RowT w K v n t) (q j : Nat) (u : Value) : RowT (w.setCell ⟨q, j, none⟩ u) K v n t := by
 rcases h with h | ⟨a, cap, cur, rfl, hq, hb, hs⟩
 · exact .inl h
 · obtain ⟨cur', h1, h2⟩ := blk_set hb q j u
   exact .inr ⟨a, cap, cur', rfl, hq, h1, by omega⟩
theorem RowT.below {w w' : World} {K : Nat} {v : Value} {n t : Nat} (h : RowT w K v n t) (hb : Below w.heap.size w w') : RowT w' K v n t := by
 rcases h with h | ⟨a, cap, cur, rfl, hq, h1, hs⟩
 · exact .inl h
 · exact .inr ⟨a, cap, cur, rfl, hq, h1.below hb h1.lt, hs⟩
structure TkIn (W : World) (g : Nat) (S : List Nat) (K : Nat) (t : T) (G : Nat) (C : Array Value) (va vv : Value) (n m : Nat) (wr : World) : Prop where
 pk : Pk wr g S t
 far : ∀ i ∈ g :: S, W.heap.size ≤ i
 lt : ∀ i ∈ g :: S, i < K
 KB : W.heap.size ≤ K
 vb : Blk wr G 31 C
 al : RowT wr K va n 9
 ve : RowT wr K vv m 3
 bel : Below W.heap.size W wr
theorem TkIn.set_ {W : World} {g : Nat} {S : List Nat} {K : Nat} {t : T} {G : Nat} {C : Array Value} {va vv : Value} {n m : Nat} {wr : World} (h : TkIn W g S K t G C va vv n m wr) (q j : Nat) (u : Value) (hq : K ≤ q) (hG : q ≠ G) : TkIn W g S K t G C va vv n m (wr.setCell ⟨q, j, none⟩ u) where
 pk := h.pk.but (S' := [q]) ((But.refl _ wr).set_ (p := ⟨q, j, none⟩) (.inl (by simp)) u) (by have := h.lt g (by simp); simp; omega) (fun i hi => by have := h.lt i (List.mem_cons_of_mem _ hi); simp; omega)
 far := h.far
 lt := h.lt
 KB := h.KB
 vb := h.vb.far (p := ⟨q, j, none⟩) (fun e => hG e.symm) u
 al := h.al.set_ q j u
 ve := h.ve.set_ q j u
 bel := h.bel.setCell (p := ⟨q, j, none⟩) (Nat.le_trans h.KB hq) u
theorem range_v {w : World} {G t : Nat} {C : Array Value} (h : Blk w G t C) : w.rangeAt G 0 C.toList := fun j v hv => by
 rw [h.cell, Nat.zero_add]
 simpa using hv

set_option linter.unusedSimpArgs false in
set_option maxHeartbeats 16000000 in
theorem walk (W : World) (A : Option Addr) (n cap : Nat) (xs : List UInt8) (le0 : n ≤ cap) (mx : cap ≤ maxLen) (src : Src W A n xs) (hE : Ad.Env W.heap.size W) :
   Calls Tryz.prog 4 #[.slice A n cap] W fun e w' => e = .returned (.bool true) ∧ Below W.heap.size W w' := by
 have hn9 : n ≤ 9223372036854775807 := Nat.le_trans le0 mx
 have HS := Lib.hid src
 have HE := Lib.hid hE
 have HLe := Lib.hid le0
 have HSm := Lib.hid (small_any W hE)
 clear hE mx src le0
 go_enter Tryz.func4, Tryz.ntmps4
 go_wp2_with fail
 refine HSm.out.mono ?_
 rintro e w1 ⟨rfl, hb⟩
 have HL1 := Lib.hid hb
 clear hb HSm
 go_wp2_with fail
 refine (new_any w1).mono ?_
 rintro e w2 ⟨g, S, rfl, hP, hfar, hb⟩
 have HP2 := Lib.hid hP
 have HL2 := Lib.hid (HL1.out.trans (hb.mono HL1.out.size))
 have HF2 := Lib.hid (show ∀ i ∈ g :: S, W.heap.size ≤ i from fun i hi => Nat.le_trans HL1.out.size (hfar i hi))
 clear hP hfar hb HL1
 by_cases h1 : 400 < n
 · have i1 : decide ((400 : Int) < (n : Int)) = true := decide_eq_true (by omega)
   clear h1
   go_wp2_with fail
   go_ret
   exact ⟨rfl, HL2.out⟩
 have i1 : decide ((400 : Int) < (n : Int)) = false := decide_eq_false (by omega)
 have hn : n ≤ 400 := by omega
 clear h1
 have hnl := HS.out.1
 go_wp2_with fail
 go_loopw [5] (fun i wr => ∃ k : Nat, k ≤ n ∧ i = .int .i64 (k : Int) ∧ Hid (∃ S, Pk wr g S (allT (xs.take k)) ∧ (∀ i ∈ g :: S, W.heap.size ≤ i) ∧ Below W.heap.size W wr)) (fun i _ => n - (intOf i).toNat)
 case atStart => exact ⟨0, Nat.zero_le _, rfl, Lib.hid ⟨S, HP2.out, HF2.out, HL2.out⟩⟩
 case round =>
   clear HP2 HF2 HL2
   obtain ⟨k, hk, rfl, HR⟩ := hrel
   obtain ⟨S, hP, hF, hL⟩ := HR.out
   have HP := Lib.hid hP
   have HF := Lib.hid hF
   have HL := Lib.hid hL
   clear hP hF hL HR
   by_cases hlt : k < n
   · have hki : (k : Int) < (n : Int) := by omega
     obtain ⟨ad, rfl, hadb, hc⟩ := HS.out.2 (by omega)
     obtain ⟨c, hx⟩ : ∃ c, xs[k]? = some c := ⟨_, List.getElem?_eq_getElem (by omega)⟩
     have hcell : wr.cell? (ad.add k) = some (.int .u8 (c.toNat : Int)) := (HL.out.cell (by rw [block_of_add]; exact hadb)).trans (hc k c hx)
     have hdn : (allT (xs.take k)).d.n ≤ 4611686018427387904 := by
       have h := allT_n (xs.take k)
       rw [List.length_take] at h
       omega
     have hun : (allT (xs.take k)).u ≤ 4611686018427387904 := by
       have h := allT_u (xs.take k)
       rw [List.length_take] at h
       omega
     have HTk := Lib.hid (take_any (HE.out.below HL.out) HF.out HP.out hdn hun c)
     rw [← allT_next hx] at HTk
     have hxt : (xs.take (k + 1)).length = k + 1 := by rw [List.length_take]; omega
     have HRf := Lib.hid (fun w hs => rall_any (some ad) (k + 1) cap (xs.take (k + 1)) w hs (by omega))
     unfold AllP at HRf
     clear hc hx hdn hun hxt
     obtain ⟨t, ht⟩ : ∃ t, allT (xs.take (k + 1)) = t := ⟨_, rfl⟩
     have HTt := Lib.hid ht
     rw [ht] at HTk HRf
     clear ht
     go_wp2_with fail
     refine HTk.out.mono ?_
     rintro e w4 ⟨S', K, va, vv, rfl, hP, hS, hB, hK, hA, hV⟩
     have HA4 := Lib.hid hA
     have HV4 := Lib.hid hV
     have HP4 := Lib.hid hP
     have HK := Lib.hid hK
     have hKB : W.heap.size ≤ K := Nat.le_of_lt (Nat.lt_of_le_of_lt (HF.out g (by simp)) (hK g (by simp)))
     have HKB := Lib.hid hKB
     have HL4 := Lib.hid (HL.out.trans (hB.below HF.out HL.out.size))
     have HF4 := Lib.hid (show ∀ i ∈ g :: S', W.heap.size ≤ i from fun i hi => by
       rcases List.mem_cons.1 hi with hi | hi
       · rw [hi]; exact HF.out g (by simp)
       · rcases hS i hi with h | h
         · exact HF.out i (List.mem_cons_of_mem _ h)
         · exact Nat.le_trans HL.out.size h)
     clear hA hV hP hS hB hK hKB HTk HP HF HL
     obtain ⟨Av, cv, rfl⟩ := Ro.OwnE.form HA4.out.1
     obtain ⟨Aw, cw, rfl⟩ := Ro.OwnE.form HV4.out.1
     go_upto_region 9 with (refine He.go_st 31 (Blk.new _ _ _) infV rfl (vC_size _ _ _ _ _ _ _ _) (vC_one _ _ _ _ _ _ _ _ _ _ _ _) rfl rfl rfl rfl ?_)
     obtain ⟨hk5, hb⟩ := verd_new w4 (vC (t.z : Int) 1 (t.u : Int) t.r (str8 t.h) t.s (.slice Av t.s.alpn.length cv) (.slice Aw t.s.vers.length cw))
     have HT5 : Hid (TkIn W g S' K t w4.heap.size (vC (t.z : Int) 1 (t.u : Int) t.r (str8 t.h) t.s (.slice Av t.s.alpn.length cv) (.slice Aw t.s.vers.length cw)) (.slice Av t.s.alpn.length cv) (.slice Aw t.s.vers.length cw) t.s.alpn.length t.s.vers.length ((w4.alloc (.cells #[Value.int .i64 0, .int .i64 0, .int .i64 0, .int .i64 0, .string ⟨#[]⟩, .int .i64 0, .bool false, .string ⟨#[]⟩, .slice none 0 0, .slice none 0 0, .bool false] 31)).setRow w4.heap.size (vC (t.z : Int) 1 (t.u : Int) t.r (str8 t.h) t.s (.slice Av t.s.alpn.length cv) (.slice Aw t.s.vers.length cw)))) := Lib.hid
       ⟨HP4.out.below hb, HF4.out, HK.out, HKB.out, hk5, (RowT.of HA4.out.1 rfl).below hb, (RowT.of HV4.out.1 rfl).below hb, HL4.out.trans (hb.mono HL4.out.size)⟩
     have HA5 := Lib.hid (HA4.out.below hb)
     have HV5 := Lib.hid (HV4.out.below hb)
     clear hk5 hb HP4 HF4 HK HKB HA4 HV4 HL4
     generalize (w4.alloc (.cells #[Value.int .i64 0, .int .i64 0, .int .i64 0, .int .i64 0, .string ⟨#[]⟩, .int .i64 0, .bool false, .string ⟨#[]⟩, .slice none 0 0, .slice none 0 0, .bool false] 31)).setRow w4.heap.size (vC (t.z : Int) 1 (t.u : Int) t.r (str8 t.h) t.s (.slice Av t.s.alpn.length cv) (.slice Aw t.s.vers.length cw)) = w5 at *
     obtain ⟨G, hg⟩ : ∃ g, w4.heap.size = g := ⟨_, rfl⟩
     rw [hg] at HT5
     rw [hg]
     clear hg
     have hsl : ∀ w', (Instr.sliceAt 22 (.slice (some ad) n cap) none (some (.int .i64 ((k : Int) + 1))) none).run Tryz.prog w' = .ok (.slice (some ad) (k + 1) cap) w' := fun w' => by
       have h := slice_to und8 siz8 (some ad) n cap w' (k + 1) (by have := HLe.out; omega)
       rwa [show (((k + 1 : Nat)) : Int) = (k : Int) + 1 from by omega] at h
     have hdr : Below w5.heap.size w5 w5.drew := (Below.refl _ _).drew
     have HS5 : Hid (Src w5.drew (some ad) (k + 1) (xs.take (k + 1))) := Lib.hid ((HS.out.below (HT5.out.bel.trans (hdr.mono HT5.out.bel.size))).take (by omega))
     have HTd := Lib.hid (show Below w5.heap.size w5 w5.drew from hdr)
     have HIn : Hid ((Tryz.prog.info? 31).map (·.size) = some (vC (t.z : Int) 1 (t.u : Int) t.r (str8 t.h) t.s (.slice Av t.s.alpn.length cv) (.slice Aw t.s.vers.length cw)).toList.length) := Lib.hid (by rw [show (vC (t.z : Int) 1 (t.u : Int) t.r (str8 t.h) t.s (.slice Av t.s.alpn.length cv) (.slice Aw t.s.vers.length cw)).toList.length = 11 from rfl]; exact infV)
     clear hdr hcell
     refine wp_region_held_drew (S := fun w' => w'.rangeAt G 0 (vC (t.z : Int) 1 (t.u : Int) t.r (str8 t.h) t.s (.slice Av t.s.alpn.length cv) (.slice Aw t.s.vers.length cw)).toList) (by kernel_rfl) (range_v (HT5.out.vb.below HTd.out HT5.out.vb.lt)) (fun h0 => ?_)
     refine St.hd_take 0 (some 35) (.agg (vC (t.z : Int) 1 (t.u : Int) t.r (str8 t.h) t.s (.slice Av t.s.alpn.length cv) (.slice Aw t.s.vers.length cw))) rfl rfl (by kernel_rfl) (by kernel_rfl) (by kernel_rfl) (fun _ _ _ h => h) (yieldsIf_load_mid (by rfl) _ _ rfl G 0 rfl (vC (t.z : Int) 1 (t.u : Int) t.r (str8 t.h) t.s (.slice Av t.s.alpn.length cv) (.slice Aw t.s.vers.length cw)).toList _ (fun _ h => h) undV rfl HIn.out) h0 ?_
     simp only [Act.put, List.setIfInBounds_toArray, List.set_cons_zero, List.set_cons_succ]
     refine St.hd_take 1 (some 36) (.slice (some ad) n cap) rfl rfl (by kernel_rfl) (by kernel_rfl) (by kernel_rfl) (fun _ _ _ h => h) (Or.inl ⟨by rfl, fun w hw => by go_simp⟩) h0 ?_
     simp only [Act.put, List.setIfInBounds_toArray, List.set_cons_zero, List.set_cons_succ]
     refine St.hd_take 2 (some 37) (.int .i64 (k : Int)) rfl rfl (by kernel_rfl) (by kernel_rfl) (by kernel_rfl) (fun _ _ _ h => h) (Or.inl ⟨by rfl, fun w hw => by go_simp⟩) h0 ?_
     simp only [Act.put, List.setIfInBounds_toArray, List.set_cons_zero, List.set_cons_succ]
     refine St.hd_take 3 (some 38) (.int .i64 ((k : Int) + 1)) rfl rfl (by kernel_rfl) (by kernel_rfl) (by kernel_rfl) (fun _ _ _ h => h) (Or.inl ⟨by rfl, fun w hw => by go_simp <;> (first | exact IntWalk.i64_in _ (by omega) | (rw [IntWalk.i64_in _ (by omega)]; omega))⟩) h0 ?_
     simp only [Act.put, List.setIfInBounds_toArray, List.set_cons_zero, List.set_cons_succ]
     refine St.hd_take 4 (some 39) (.slice (some ad) (k + 1) cap) rfl rfl (by kernel_rfl) (by kernel_rfl) (by kernel_rfl) (fun _ _ _ h => h) (Or.inl ⟨by rfl, fun w hw => by have hx := hsl w; go_simp⟩) h0 ?_
     simp only [Act.put, List.setIfInBounds_toArray, List.set_cons_zero, List.set_cons_succ]
     refine wpAnyH_ready (rs := [5]) (by kernel_rfl) (by simp) (AllReadyH.cons rfl (fun K1 hK => ?_) AllReadyH.nil)
     go_simp
     go_wp2_with (go_at_call 11; refine (HRf.out _ HS5.out).mono ?_; rintro e w6 ⟨vb, vu, rfl, hvb, hvu, hb⟩; have hb6 := HTd.out.trans hb; have HB6 := Lib.hid hvb; have HU6 := Lib.hid hvu; have HA6 := Lib.hid (HA5.out.below hb6); have HV6 := Lib.hid (HV5.out.below hb6); have HR6 := Lib.hid (range_v (HT5.out.vb.below hb6 HT5.out.vb.lt)); have HX6 := Lib.hid hb6; clear hvb hvu hb hb6)
     refine hK.out _ _ HR6.out (fun h1 => ?_)
     clear hK K1
     refine wpAnyH_ready (rs := [6]) (by kernel_rfl) (by simp) (AllReadyH.cons rfl (fun K1 hK => ?_) AllReadyH.nil)
     go_simp
     go_wp2_with (go_at_call 9; refine (samev_any _ _ _ _ _ _ _ _ vb vu _ _ _ _ w6 HA6.out HV6.out HB6.out HU6.out).mono ?_; rintro e w7 ⟨rfl, hb⟩; have hb7 := HX6.out.trans (hb.mono HX6.out.size); have HR7 := Lib.hid (range_v (HT5.out.vb.below hb7 HT5.out.vb.lt)); have HX7 := Lib.hid hb7; clear hb hb7)
     refine hK.out _ _ HR7.out (fun h2 => ?_)
     clear hK K1
     refine St.hd_take 7 (some 42) (.bool false) rfl rfl (by kernel_rfl) (by kernel_rfl) (by kernel_rfl) (fun _ _ _ h => h) (Or.inl ⟨by rfl, fun w hw => by go_simp⟩) h2 ?_
     simp only [Act.put, List.setIfInBounds_toArray, List.set_cons_zero, List.set_cons_succ]
     refine wpAnyH_done (by kernel_rfl) ?_ _
     have HT7 : Hid (TkIn W g S' K t G (vC (t.z : Int) 1 (t.u : Int) t.r (str8 t.h) t.s (.slice Av t.s.alpn.length cv) (.slice Aw t.s.vers.length cw)) (.slice Av t.s.alpn.length cv) (.slice Aw t.s.vers.length cw) t.s.alpn.length t.s.vers.length w7) := Lib.hid
       ⟨HT5.out.pk.below HX7.out, HT5.out.far, HT5.out.lt, HT5.out.KB, HT5.out.vb.below HX7.out HT5.out.vb.lt, HT5.out.al.below HX7.out, HT5.out.ve.below HX7.out, HT5.out.bel.trans (HX7.out.mono HT5.out.bel.size)⟩
     have HNx : Hid (∀ w', Pk w' g S' t → Pk w' g S' (allT (xs.take (k + 1)))) := Lib.hid (fun w' h => by rw [HTt.out]; exact h)
     obtain ⟨CC, hCC⟩ : ∃ C, vC (t.z : Int) 1 (t.u : Int) t.r (str8 t.h) t.s (.slice Av t.s.alpn.length cv) (.slice Aw t.s.vers.length cw) = C := ⟨_, rfl⟩
     have hC8 : CC[8]? = some (.slice Av t.s.alpn.length cv) := by rw [← hCC]; rfl
     have hC9 : CC[9]? = some (.slice Aw t.s.vers.length cw) := by rw [← hCC]; rfl
     rw [hCC] at HT7
     have HC8 := Lib.hid hC8
     have HC9 := Lib.hid hC9
     have hl1 : t.s.alpn.length ≤ 65535 := HA5.out.2
     have hl2 : t.s.vers.length ≤ 65535 := HV5.out.2
     clear hC8 hC9 hCC h0 h1 h2 HR6 HR7 HX6 HX7 HA5 HV5 HA6 HV6 HB6 HU6 HT5 HTd HS5 HIn HRf hsl HTt
     obtain ⟨n1, hn1⟩ : ∃ m, t.s.alpn.length = m := ⟨_, rfl⟩
     obtain ⟨n2, hn2⟩ : ∃ m, t.s.vers.length = m := ⟨_, rfl⟩
     rw [hn1] at HT7 HC8 hl1
     rw [hn2] at HT7 HC9 hl2
     clear hn1 hn2
     have k8 : w7.cell? ⟨G, 8, none⟩ = some (.slice Av n1 cv) := by rw [HT7.out.vb.cell]; exact HC8.out
     go_wp2_with fail
     go_loopw [7] (fun i wx => ∃ j : Nat, j ≤ n1 ∧ i = .int .i64 (j : Int) ∧ Hid (TkIn W g S' K t G CC (.slice Av n1 cv) (.slice Aw n2 cw) n1 n2 wx)) (fun i _ => n1 - (intOf i).toNat)
     case atStart => exact ⟨0, Nat.zero_le _, rfl, HT7⟩
     case round =>
       clear HT7 k8
       obtain ⟨j, hj, rfl, HT8⟩ := hrel
       have k8 : wr.cell? ⟨G, 8, none⟩ = some (.slice Av n1 cv) := by rw [HT8.out.vb.cell]; exact HC8.out
       by_cases hjl : j < n1
       · have hji : (j : Int) < (n1 : Int) := by omega
         rcases HT8.out.al with h | ⟨q, cp, cur, e0, hq, hb, hs⟩
         · omega
         injection e0 with e0 _ _
         subst e0
         obtain ⟨uv, hcj⟩ : ∃ v, wr.cell? ⟨q, j, none⟩ = some v := ⟨cur[j]'(by omega), by rw [hb.cell]; exact Array.getElem?_eq_getElem _⟩
         have hfj := hb.frozen j
         have hqG : q ≠ G := hb.ne_ HT8.out.vb (by decide)
         have HQ := Lib.hid hq
         clear hb hs hq
         go_wp2_with fail
         go_roundw
         case rel => exact ⟨j + 1, by omega, by go_num, Lib.hid (HT8.out.set_ q j _ HQ.out hqG)⟩
         case measure => simp [intOf]; omega
       · obtain rfl : j = n1 := by omega
         clear hj hjl
         have k9 : wr.cell? ⟨G, 9, none⟩ = some (.slice Aw n2 cw) := by rw [HT8.out.vb.cell]; exact HC9.out
         go_wp2_with fail
         go_loopw [8] (fun i wx => ∃ l : Nat, l ≤ n2 ∧ i = .int .i64 (l : Int) ∧ Hid (TkIn W g S' K t G CC (.slice Av j cv) (.slice Aw n2 cw) j n2 wx)) (fun i _ => n2 - (intOf i).toNat)
         case atStart => exact ⟨0, Nat.zero_le _, rfl, HT8⟩
         case round =>
           clear HT8 k8 k9
           obtain ⟨l, hl, rfl, HT9⟩ := hrel
           have k9 : wr.cell? ⟨G, 9, none⟩ = some (.slice Aw n2 cw) := by rw [HT9.out.vb.cell]; exact HC9.out
           by_cases hll : l < n2
           · have hli : (l : Int) < (n2 : Int) := by omega
             rcases HT9.out.ve with h | ⟨q, cp, cur, e0, hq, hb, hs⟩
             · omega
             injection e0 with e0 _ _
             subst e0
             obtain ⟨uv, hcj⟩ : ∃ v, wr.cell? ⟨q, l, none⟩ = some v := ⟨cur[l]'(by omega), by rw [hb.cell]; exact Array.getElem?_eq_getElem _⟩
             have hfj := hb.frozen l
             have hqG : q ≠ G := hb.ne_ HT9.out.vb (by decide)
             have HQ := Lib.hid hq
             clear hb hs hq
             go_wp2_with fail
             go_roundw
             case rel => exact ⟨l + 1, by omega, by go_num, Lib.hid (HT9.out.set_ q l _ HQ.out hqG)⟩
             case measure => simp [intOf]; omega
           · obtain rfl : l = n2 := by omega
             clear hl hll
             go_wp2_with fail
             go_roundw
             case rel => exact ⟨k + 1, hlt, by go_num, Lib.hid ⟨S', HNx.out _ HT9.out.pk, HT9.out.far, HT9.out.bel⟩⟩
             case measure => simp [intOf]; omega
   · obtain rfl : k = n := by omega
     go_wp2_with fail
     go_ret
     exact ⟨rfl, HL.out⟩

set_option maxRecDepth 100000 in
set_option linter.unusedVariables false in
theorem lifted (os : Os) (started : os.Started) (H : Type) (enc : TypeId × Value → H) :
   ReturnsInHanded {} Tryz.checked os 4 .any (fun w args => (Rows.tlspeekTakesSpec.pre enc Tryz.prog Tryz.f4 [] false w args ∧ laidMetH Tryz.prog laid5 w) ∧ sizedMet enc Tryz.prog Tryz.f4 (OpenSpec.ofChange Rows.tlspeekTakesSpec) false w args)
     (Rows.tlspeekTakesSpec.post enc Tryz.prog Tryz.f4 false true false false) := by
 refine returns_laid (C := Tryz.checked) (X := fun w _ => laidMetH Tryz.prog laid5 w) (fun _ _ _ hh h => h.of_heap hh) own started (by kernel_rfl) Tryz.func4
   (ChangeSpec.witness_shaped (enc := enc) (C := Tryz.checked) (os := os) (X := fun w _ => laidMetH Tryz.prog laid5 w) false (World.laidAll Tryz.prog os laid5) #[.slice none 0 0] 8 (World.laidAll_os _ _ _)
     (World.shaped_of_ZipB (by kernel_rfl) (by kernel_rfl)) (by kernel_rfl) (by kernel_rfl) (by kernel_rfl) (door_met5 os _)) ?_
 intro W base args ds gs before hval0 hW hL hshp
 have hE := env_of5 hL hshp
 have hval : ∀ (j : Nat) t v, Tryz.f4.params[j]? = some t → args[j]? = some v → Value.okWide Tryz.prog W .any base t v := hval0
 have hW' := hW
 obtain ⟨p, q, hA0, hV, rfl, hfz, hnd⟩ := hW
 have hA : DataW.TrodAll enc Tryz.prog W 0 (fun _ => true) true Tryz.f4.params.toList args.toList ds p := hA0
 rw [Tryz.params4] at hA hval
 obtain ⟨v0, vs0, d0, ds0, p0, q0, hargs, rfl, rfl, h0, r0⟩ := trodAll_cons hA
 obtain ⟨rfl, rfl, rfl⟩ := trodAll_nil r0
 obtain rfl : args = #[v0] := by cases args; simp_all
 obtain ⟨rfl, rfl⟩ := trodVars_none hV
 have k0 := h0
 have lt0 : ∀ x ∈ p0, x.block < W.heap.size := by obtain ⟨m, hm⟩ := k0; exact DataW.trod_lt m _ _ _ hm
 obtain ⟨A0, n0, cap0, xs0, rfl, le0, mx0, src0⟩ := open_bytes (hval 0 22 v0 rfl rfl) h0
 clear hA0 hval0
 refine (walk W A0 n0 cap0 xs0 le0 mx0 src0 hE).mono fun e W' ⟨he, bel⟩ => ?_
 subst he
 exact ⟨_, rfl, _, _, _, [], _, [], hW', trodAll_mk1 (shut_bool Tryz.underlying4 _), (trodAll_cons_mk (Below.trod Lift.laidOut (by kernel_rfl) (of_decide_eq_true (by kernel_rfl)) k0 bel lt0) trodAll_mk0), rfl, bel.frame _, fun h => by cases h⟩

theorem over : Rows.tlspeekTakesRow.holds Tryz.pinned (OpenSpec.ofChange Rows.tlspeekTakesSpec) :=
 OpenClaim.holds_of_wide 4 Tryz.f4 rfl rfl rfl rfl rfl rfl rfl ⟨rfl, rfl, rfl, rfl, rfl⟩ rfl rfl rfl rfl rfl (by kernel_rfl) Tryz.func4 (by kernel_rfl)
   (of_decide_eq_true (by kernel_rfl)) (by unfold Func.isWrapper; first | (rw [if_pos (by decide +kernel)]; kernel_rfl) | (rw [if_neg (by decide +kernel)]; exact ⟨rfl, rfl⟩))
   (fun os started H enc _ => lifted os started H enc)

theorem proved : Rows.TlspeekTakesCardSaid :=
 Claim7.holds_tied_plain_at .later [] [.data, .data, .data, .data, .pinned] true (true, "b16d6ffb205dea833cc79c44a30065e39234ce0cc51c7e58c1a5a2563e765d3d") false
   over (fun _ h => by cases h) (by kernel_rfl) (fun _ h => by cases h) tlspeekTakes_row_tie rfl ⟨rfl, rfl⟩ (by kernel_rfl) rfl
   (fun f fn hf hfn => by
     obtain rfl : f = 4 := Option.some.inj ((show Tryz.prog.funcNamed "hagioscope/hagioscopelaw15.TlspeekTakes" = some 4 by kernel_rfl).symm.trans hf) |>.symm
     obtain rfl : fn = Tryz.f4 := (Option.some.inj (Tryz.func4.symm.trans hfn)).symm
     exact ⟨by kernel_rfl, fun j t ht => by
       rw [Tryz.params4] at ht
       have hm : t ∈ [22] := by simpa using Array.mem_of_getElem? ht
       have hall : ([22].all fun u => !Tryz.prog.wantsStandIn u) = true := by kernel_rfl
       exact (show Tryz.prog.wantsStandIn t = false by simpa using List.all_eq_true.1 hall t hm)⟩)
   (by kernel_rfl)
#print axioms proved
end Go.Proofs.YthfknndjdfofgaaGreatDoor.tlspeekTakes
