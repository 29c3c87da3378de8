/-
 What a look's answer is bounded by, and what one byte makes of it, by what the deframer and the message answer. Plain lemmas; no condition.
-/
import Derived.Test.YthfknndjdfofgaaGreatDoorR13
import Derived.Test.YthfknndjdfofgaaGreatDoorR40
import Derived.Test.YthfknndjdfofgaaGreatDoorR22
import Derived.Test.YthfknndjdfofgaaGreatDoorR08
import Derived.Test.YthfknndjdfofgaaGreatDoorR36
namespace Go.Proofs.YthfknndjdfofgaaGreatDoor.Tp
open Go.Proofs.YthfknndjdfofgaaGreatDoor.Rc Go.Proofs.YthfknndjdfofgaaGreatDoor.Sh

theorem proto_items : ∀ (f : Nat) (st : Option (List UInt8)) (x : List UInt8), x ∈ (Ex.itemsF Ex.proO f st).1 → x.length ≤ 255
 | 0, st, x, h => by rw [Ex.itemsF] at h; cases h
 | f + 1, st, x, h => by
   rw [Ex.itemsF] at h
   split at h
   · cases h
   · rcases List.mem_cons.1 h with rfl | h
     · exact Nat.le_of_lt_succ (Ex.vec_small1 st)
     · exact proto_items f _ x h
theorem proto_few (b x : List UInt8) (hx : x ∈ (Ex.protoS b).1) : x.length ≤ 255 := by
 unfold Ex.protoS at hx
 split at hx
 · exact proto_items _ _ x hx
 · cases hx
theorem see_alpn (L : List (Int × List UInt8)) (x : List UInt8) (hx : x ∈ (Ex.seeS L).1.alpn) : x.length ≤ 255 := by
 unfold Ex.seeS at hx
 split at hx
 · have hx : x ∈ (Ex.fdS Ex.protoS (He.findL L 16)).1 := hx
   unfold Ex.fdS at hx
   split at hx
   · exact proto_few _ x hx
   · cases hx
 · cases hx
theorem normal_few (l : List UInt8) : (Nm.normalS l).1.length ≤ 255 := by
 by_cases h : (Nm.normalS l).2 = 0
 · have := (Nm.normal_len (l := l) (n := (Nm.normalS l).1) (by rw [← h])).2
   omega
 · rw [Nm.normal_no h]; exact Nat.zero_le _
structure Few (h : List UInt8) (s : Ex.Sn) : Prop where
 h : h.length ≤ 255
 n : s.name.length ≤ 255
 a : ∀ x ∈ s.alpn, x.length ≤ 255
theorem Few.none : Few [] Ex.Sn.zero := ⟨Nat.zero_le _, Nat.zero_le _, fun x h => by cases h⟩
theorem look_few (b : List UInt8) : Few (lookS b).1 (lookS b).2.1 := by
 unfold lookS
 repeat' split
 all_goals first
   | exact Few.none
   | exact ⟨normal_few _, see_name _, see_alpn _⟩
   | exact ⟨Nat.zero_le _, see_name _, see_alpn _⟩
theorem stepT_few {t : T} (h : Few t.h t.s) (c : UInt8) : Few (stepT t c).h (stepT t c).s := by
 unfold stepT
 repeat' split
 all_goals first
   | exact h
   | exact Few.none
   | exact look_few _
theorem stepT_u (t : T) (c : UInt8) : (stepT t c).u ≤ t.u + 1 := by
 unfold stepT
 repeat' split
 all_goals first
   | exact Nat.le_succ _
   | exact Nat.le_refl _
theorem runT_u (t : T) (xs : List UInt8) : (runT t xs).u ≤ t.u + xs.length := by
 induction xs generalizing t with
 | nil => exact Nat.le_refl _
 | cons c cs ih =>
   have h1 := ih (stepT t c)
   have h2 := stepT_u t c
   rw [runT_cons, List.length_cons]
   omega
theorem allT_u (xs : List UInt8) : (allT xs).u ≤ xs.length := by
 have := runT_u T.st xs
 rw [show T.st.u = 0 from rfl, Nat.zero_add] at this
 exact this

def afterT (t : T) (d : D) (m : M) (wh : Bool) (fe : Int) : T :=
 if fe ≠ 0 then t.bad d m fe
 else if wh = false then ⟨d, m, 0, t.u + 1, 0, [], Ex.Sn.zero⟩
 else if (lookS m.b).2.2 ≠ 0 then t.bad d m (lookS m.b).2.2
 else ⟨d, m, 1, t.u + 1, 0, (lookS m.b).1, (lookS m.b).2.1⟩
theorem after_head {t : T} {c : UInt8} (hz : t.z = 0) (hp : payD t.d = false) : stepT t c = afterT t (stepD t.d c) t.m false ((stepD t.d c).e : Int) := by
 unfold stepT afterT
 rw [if_neg (by omega)]
 by_cases he : (stepD t.d c).e = 0
 · rw [if_neg (by omega), if_pos hp, if_neg (by omega), if_pos rfl]
 · rw [if_pos he, if_pos (by omega)]
theorem pay_ok {d : D} (c : UInt8) (hp : payD d = true) : (stepD d c).e = 0 := by
 rcases Nat.eq_zero_or_pos (stepD d c).e with h | h
 · exact h
 · rw [payD_fault c (by omega)] at hp; cases hp
theorem after_pay {t : T} {c : UInt8} (hz : t.z = 0) (hp : payD t.d = true) : stepT t c = afterT t (stepD t.d c) (stepM t.m c) (wholeM (stepM t.m c)) ((stepM t.m c).e : Int) := by
 have h0 := pay_ok c hp
 unfold stepT afterT
 rw [if_neg (by omega), if_neg (by omega), if_neg (by rw [hp]; simp)]
 by_cases he : (stepM t.m c).e = 0
 · rw [if_neg (show ¬ (stepM t.m c).e ≠ 0 by omega), if_neg (show ¬ ((stepM t.m c).e : Int) ≠ 0 by omega)]
 · rw [if_pos he, if_pos (by omega)]
theorem after_bad (t : T) (d : D) (m : M) (wh : Bool) {fe : Int} (h : fe ≠ 0) : afterT t d m wh fe = t.bad d m fe := by
 unfold afterT; rw [if_pos h]
theorem after_open (t : T) (d : D) (m : M) : afterT t d m false 0 = ⟨d, m, 0, t.u + 1, 0, [], Ex.Sn.zero⟩ := by
 unfold afterT; rw [if_neg (by simp), if_pos rfl]
theorem after_whole (t : T) (d : D) (m : M) : afterT t d m true 0 = if (lookS m.b).2.2 ≠ 0 then t.bad d m (lookS m.b).2.2 else ⟨d, m, 1, t.u + 1, 0, (lookS m.b).1, (lookS m.b).2.1⟩ := by
 unfold afterT; rw [if_neg (by simp), if_neg (by simp)]
end Go.Proofs.YthfknndjdfofgaaGreatDoor.Tp

/-
 Contract of package tlspeek's told over this seat's translation: what a message's body tells is lookS.
-/
namespace Go.Proofs.YthfknndjdfofgaaGreatDoor.Tp
open Go.RowKit Go.Proofs.YthfknndjdfofgaaGreatDoor.Wd Go.Proofs.YthfknndjdfofgaaGreatDoor.Rc Go.Proofs.YthfknndjdfofgaaGreatDoor.Sh

theorem hel_new {w : World} {H : He.Hv} (h : He.HOwn w H) : He.HAt ((w.alloc (.cells He.Hv.zero.C 68)).setRow w.heap.size H.C) w.heap.size H ∧ Below w.heap.size w ((w.alloc (.cells He.Hv.zero.C 68)).setRow w.heap.size H.C) :=
 ⟨⟨He.setRow_blk (Blk.new w 68 He.Hv.zero.C), He.zero_row (h.below ((Below.refl _ _).alloc (Nat.le_refl _) (.cells He.Hv.zero.C 68))) (Blk.new w 68 He.Hv.zero.C) (by unfold He.TW; decide) H.C⟩,
   He.setRow_below ((Below.refl _ _).alloc (Nat.le_refl _) _) (Nat.le_refl _) _⟩
theorem ret_three {fn : Func} {p q r : Tmp} {ty t : TypeId} {a : Act} {w : World} {g n : Nat} {C : Array Value} {v u : Value} {d : TypeDesc} {R : Ending → World → Prop} (hf : fn.results = #[.cell p ty, .tmp q, .tmp r]) (hb : Blk w g t C) (hu : Tryz.prog.underlying ty = some d)
   (hd : d.isRow = true) (hi : (Tryz.prog.info? ty).map (·.size) = some n) (hn : C.size = n) (hp : a.tmps.getD p undef = .pointer (some ⟨g, 0, none⟩)) (hq : a.tmps.getD q undef = v) (hr : a.tmps.getD r undef = u) (h : R (.returned (.tuple #[.agg C, v, u])) w) (hdf : a.defers = []) : bodyPost Tryz.prog fn R .ret a w := by
 have hp' : a.tmps[p]?.getD undef = .pointer (some ⟨g, 0, none⟩) := by simpa using hp
 have hq' : a.tmps[q]?.getD undef = v := by simpa using hq
 have hr' : a.tmps[r]?.getD undef = u := by simpa using hr
 have hl := run_loadVar_row w g t ty C (0, 0) d hb hu (by cases d <;> first | rfl | cases hd) (by rw [hi, hn])
 exact bodyPost_ret (v := .tuple #[.agg C, v, u]) (by simp [results, hf, hp', hq', hr', asAddr, hl]) hdf h
def ToldP (xs : List UInt8) (w : World) (e : Ending) (w' : World) : Prop :=
 ∃ va vv, e = .returned (.tuple #[.agg (Ex.snC (lookS xs).2.1 va vv), .string (str8 (lookS xs).1), .int .i64 (lookS xs).2.2]) ∧ Ex.RelP w' w.heap.size va (lookS xs).2.1.alpn ∧ Ex.RelV w' w.heap.size vv (lookS xs).2.1.vers ∧ Below w.heap.size w w'
theorem told_bad {xs : List UInt8} {w w' : World} {e : Int} (h : lookS xs = ([], Ex.Sn.zero, e)) (hb : Below w.heap.size w w') :
   ToldP xs w (.returned (.tuple #[.agg #[Value.bool false, .string ⟨#[]⟩, .slice none 0 0, .slice none 0 0, .bool false], .string ⟨#[]⟩, .int .i64 e])) w' := by
 unfold ToldP
 rw [h]
 exact ⟨.slice none 0 0, .slice none 0 0, rfl, relP_nil _ _, relV_nil _ _, hb⟩

set_option linter.unusedSimpArgs false in
set_option maxRecDepth 100000 in
set_option maxHeartbeats 8000000 in
theorem told_any {B : Nat} (A : Option Addr) (n c : Nat) (xs : List UInt8) (w : World) (hs : Src w A n xs) (hn : n ≤ 20000) (hE : Ad.Env B w) :
   Calls Tryz.prog 44 #[.slice A n c] w (ToldP xs w) := by
 have HS := Lib.hid hs
 have HE := Lib.hid hE
 obtain ⟨P, hP⟩ : ∃ P, He.parseS xs = P := ⟨_, rfl⟩
 have HLk := Lib.hid (look_of hP)
 have HP := Lib.hid hP
 obtain ⟨hl, E⟩ := P
 simp only at HLk
 clear hs hP hE
 go_enter Tryz.func44, Tryz.ntmps44
 go_upto_region 1 with fail
 have HV0 := Lib.hid (Blk.new w 29 #[Value.bool false, .string ⟨#[]⟩, .slice none 0 0, .slice none 0 0, .bool false])
 have HB0 : Hid (Below w.heap.size w (w.alloc (.cells #[Value.bool false, .string ⟨#[]⟩, .slice none 0 0, .slice none 0 0, .bool false] 29))) := Lib.hid ((Below.refl _ _).alloc (Nat.le_refl _) _)
 have HS0 := Lib.hid (HS.out.alloc (.cells #[Value.bool false, .string ⟨#[]⟩, .slice none 0 0, .slice none 0 0, .bool false] 29))
 generalize w.alloc (.cells #[Value.bool false, .string ⟨#[]⟩, .slice none 0 0, .slice none 0 0, .bool false] 29) = w1 at *
 obtain ⟨G, hG⟩ : ∃ G, w.heap.size = G := ⟨_, rfl⟩
 have HG := Lib.hid hG
 rw [hG] at HV0 ⊢
 clear hG HS
 go_wp2_with fail
 refine (He.parse_any A n c xs w1 HS0.out (by omega)).mono ?_
 rintro e w2 ⟨H, rfl, ho, hh, hb⟩
 rw [HP.out] at hh ⊢
 have HV2 := Lib.hid (HV0.out.below hb HV0.out.lt)
 have HB2 := Lib.hid (HB0.out.trans (hb.mono HB0.out.size))
 have hr := ho.ok.rnd
 have HO := Lib.hid ho
 have HH := Lib.hid hh
 clear hb ho hh HV0 HB0 HS0 HP
 go_upto_region 2 with (refine He.go_st 68 (Blk.new _ _ _) He.infH rfl (He.Hv.size hr) (He.Hv.one _) rfl rfl rfl rfl ?_)
 rw [← He.zeroC]
 obtain ⟨la, hb⟩ := hel_new HO.out
 have HV3 := Lib.hid (HV2.out.below hb HV2.out.lt)
 have HB3 := Lib.hid (HB2.out.trans (hb.mono HB2.out.size))
 have HLa := Lib.hid la
 clear hb la HV2 HB2 HO
 generalize (w2.alloc (.cells He.Hv.zero.C 68)).setRow w2.heap.size H.C = w3 at *
 generalize w2.heap.size = g3 at *
 by_cases hE : E = 0
 case neg =>
   have hLk : lookS xs = ([], Ex.Sn.zero, E) := by rw [HLk.out, if_pos hE]
   have HL := Lib.hid hLk
   have f1 : (E != 0) = true := by rw [bne_iff_ne]; exact hE
   clear hE hLk HLk
   have ck0 := HV3.out.cell 0
   have ck1 := HV3.out.cell 1
   have ck2 := HV3.out.cell 2
   have ck3 := HV3.out.cell 3
   have ck4 := HV3.out.cell 4
   have cf0 := HV3.out.frozen 0
   have cf1 := HV3.out.frozen 1
   have cf2 := HV3.out.frozen 2
   have cf3 := HV3.out.frozen 3
   have cf4 := HV3.out.frozen 4
   go_wp2_with fail
   obtain ⟨hbk, hgr⟩ := Ex.five w3 G 29 _ _ _ _ _ (.bool false) (.string ⟨#[]⟩) (.slice none 0 0) (.slice none 0 0) (.bool false) HV3.out
   exact ret_three Tryz.results44 hbk Ex.undS rfl Ex.infS rfl rfl rfl rfl (told_bad HL.out (HB3.out.grown hgr HB3.out.size (fun j hj => by injection hj with hj; have := HG.out; omega))) rfl
 subst hE
 rw [if_neg (by simp)] at HLk
 have HSe := Lib.hid (fun w' hok => Ex.see_any H w' hok)
 rw [HH.out] at HSe
 obtain ⟨Q, hQ⟩ : ∃ Q, Ex.seeS hl.exts = Q := ⟨_, rfl⟩
 rw [hQ] at HLk HSe
 obtain ⟨s, F⟩ := Q
 have hnm := see_name hl.exts
 rw [hQ] at hnm
 have HNm : Hid ((str8 s.name).size ≤ 2147483640) := Lib.hid (by show s.name.toArray.size ≤ _; rw [List.size_toArray]; exact Nat.le_trans hnm (by decide))
 simp only at HLk
 clear hQ hnm
 have k3 := HLa.out.blk
 go_wp2_with (refine He.go_ld 68 k3 He.undH rfl He.infH (He.Hv.size hr) rfl rfl rfl ?_)
 refine (HSe.out w3 HLa.out.own.ok).mono ?_
 rintro e w4 ⟨va, vv, rfl, hA, hV, hb⟩
 simp only at hA hV ⊢
 have HV4 := Lib.hid (HV3.out.below hb HV3.out.lt)
 have HB4 := Lib.hid (HB3.out.trans (hb.mono HB3.out.size))
 have HA4 := Lib.hid (hA.lower HB3.out.size)
 have HW4 := Lib.hid (hV.lower HB3.out.size)
 clear hb hA hV HV3 HB3 k3 HSe HLa
 obtain ⟨Av, cv, rfl⟩ := Ro.OwnE.form HA4.out.1
 obtain ⟨Aw, cw, rfl⟩ := Ro.OwnE.form HW4.out.1
 go_upto_region 5 with (refine He.go_st 29 (Blk.new _ _ _) Ex.infS rfl (seen_size _ _ _) (seen_one _ _ _ _ _ _ _) rfl rfl rfl rfl ?_)
 obtain ⟨k5, hb⟩ := seen_new w4 (Ex.snC s (.slice Av s.alpn.length cv) (.slice Aw s.vers.length cw))
 have HV5 := Lib.hid (HV4.out.below hb HV4.out.lt)
 have HB5 := Lib.hid (HB4.out.trans (hb.mono HB4.out.size))
 have HA5 := Lib.hid (HA4.out.below hb)
 have HW5 := Lib.hid (HW4.out.below hb)
 have HK5 := Lib.hid k5
 clear hb k5 HV4 HB4 HA4 HW4
 generalize (w4.alloc (.cells #[Value.bool false, .string ⟨#[]⟩, .slice none 0 0, .slice none 0 0, .bool false] 29)).setRow w4.heap.size (Ex.snC s (.slice Av s.alpn.length cv) (.slice Aw s.vers.length cw)) = w5 at *
 generalize w4.heap.size = g5 at *
 by_cases hF : F = 0
 case neg =>
   have hLk : lookS xs = ([], Ex.Sn.zero, F) := by rw [HLk.out, if_pos hF]
   have HL := Lib.hid hLk
   have f1 : (F != 0) = true := by rw [bne_iff_ne]; exact hF
   clear hF hLk HLk
   have ck0 := HV5.out.cell 0
   have ck1 := HV5.out.cell 1
   have ck2 := HV5.out.cell 2
   have ck3 := HV5.out.cell 3
   have ck4 := HV5.out.cell 4
   have cf0 := HV5.out.frozen 0
   have cf1 := HV5.out.frozen 1
   have cf2 := HV5.out.frozen 2
   have cf3 := HV5.out.frozen 3
   have cf4 := HV5.out.frozen 4
   go_wp2_with fail
   obtain ⟨hbk, hgr⟩ := Ex.five w5 G 29 _ _ _ _ _ (.bool false) (.string ⟨#[]⟩) (.slice none 0 0) (.slice none 0 0) (.bool false) HV5.out
   exact ret_three Tryz.results44 hbk Ex.undS rfl Ex.infS rfl rfl rfl rfl (told_bad HL.out (HB5.out.grown hgr HB5.out.size (fun j hj => by injection hj with hj; have := HG.out; omega))) rfl
 subst hF
 rw [if_neg (by simp)] at HLk
 have hk0 : w5.cell? ⟨g5, 0, none⟩ = some (.bool s.has) := by rw [HK5.out.cell]; rfl
 have hk1 : w5.cell? ⟨g5, 1, none⟩ = some (.string (str8 s.name)) := by rw [HK5.out.cell]; rfl
 have hne : 29 ≠ 9 := by decide
 have hni : 29 ≠ 3 := by decide
 cases hh : s.has
 · rw [hh] at hk0 HLk
   rw [if_neg (by simp)] at HLk
   clear hh
   have k5 := HK5.out
   clear hk1
   have hsz : (Ex.snC s (.slice Av s.alpn.length cv) (.slice Aw s.vers.length cw)).size = 5 := rfl
   go_wp2_with (first | (refine He.go_ld 29 k5 Ex.undS rfl Ex.infS rfl rfl rfl rfl ?_) | (refine He.go_st 29 HV5.out Ex.infS rfl (seen_size s (.slice Av s.alpn.length cv) (.slice Aw s.vers.length cw)) (seen_one _ _ _ _ _ _ _) rfl rfl rfl rfl ?_))
   refine ret_three Tryz.results44 (He.setRow_blk HV5.out) Ex.undS rfl Ex.infS rfl rfl rfl rfl ?_ rfl
   unfold ToldP
   rw [HLk.out]
   exact ⟨_, _, rfl, HA5.out.off (St.only_row _ _ _) (He.OffT.of_blk HV5.out (fun e => hne e)), HW5.out.off (St.only_row _ _ _) (He.OffT.of_blk HV5.out (fun e => hni e)), He.setRow_below HB5.out (by rw [HG.out]; exact Nat.le_refl _) _⟩
 · rw [hh] at hk0 HLk
   rw [if_pos rfl] at HLk
   clear hh
   have hz : (str8 s.name).size < 4294967281 := by have := HNm.out; omega
   have HNo := Lib.hid (fun w hE => Nm.norm_any (B := B) (str8 s.name) w hE hz)
   rw [show Asc.bs (str8 s.name) = s.name from rfl] at HNo
   obtain ⟨R, hR⟩ : ∃ R, Nm.normalS s.name = R := ⟨_, rfl⟩
   rw [hR] at HNo HLk
   obtain ⟨nm, e3⟩ := R
   simp only at HLk
   clear hR hz
   go_wp2_with fail
   refine (HNo.out w5 (HE.out.on HB5.out)).mono ?_
   rintro e w6 ⟨rfl, hb⟩
   have HV6 := Lib.hid (HV5.out.below hb HV5.out.lt)
   have HB6 := Lib.hid (HB5.out.trans (hb.mono HB5.out.size))
   have HA6 := Lib.hid (HA5.out.below hb)
   have HW6 := Lib.hid (HW5.out.below hb)
   have k6 := HK5.out.below hb HK5.out.lt
   clear hb HNo hk0 hk1 HK5 HV5 HB5 HA5 HW5
   by_cases h3 : e3 = 0
   case neg =>
     have hLk : lookS xs = ([], Ex.Sn.zero, e3) := by rw [HLk.out, if_pos h3]
     have HL := Lib.hid hLk
     have f1 : (e3 != 0) = true := by rw [bne_iff_ne]; exact h3
     clear h3 hLk HLk
     have ck0 := HV6.out.cell 0
     have ck1 := HV6.out.cell 1
     have ck2 := HV6.out.cell 2
     have ck3 := HV6.out.cell 3
     have ck4 := HV6.out.cell 4
     have cf0 := HV6.out.frozen 0
     have cf1 := HV6.out.frozen 1
     have cf2 := HV6.out.frozen 2
     have cf3 := HV6.out.frozen 3
     have cf4 := HV6.out.frozen 4
     go_wp2_with fail
     obtain ⟨hbk, hgr⟩ := Ex.five w6 G 29 _ _ _ _ _ (.bool false) (.string ⟨#[]⟩) (.slice none 0 0) (.slice none 0 0) (.bool false) HV6.out
     exact ret_three Tryz.results44 hbk Ex.undS rfl Ex.infS rfl rfl rfl rfl (told_bad HL.out (HB6.out.grown hgr HB6.out.size (fun j hj => by injection hj with hj; have := HG.out; omega))) rfl
   subst h3
   rw [if_neg (by simp)] at HLk
   have hsz : (Ex.snC s (.slice Av s.alpn.length cv) (.slice Aw s.vers.length cw)).size = 5 := rfl
   go_wp2_with (first | (refine He.go_ld 29 k6 Ex.undS rfl Ex.infS rfl rfl rfl rfl ?_) | (refine He.go_st 29 HV6.out Ex.infS rfl (seen_size s (.slice Av s.alpn.length cv) (.slice Aw s.vers.length cw)) (seen_one _ _ _ _ _ _ _) rfl rfl rfl rfl ?_))
   refine ret_three Tryz.results44 (He.setRow_blk HV6.out) Ex.undS rfl Ex.infS rfl rfl rfl rfl ?_ rfl
   unfold ToldP
   rw [HLk.out]
   exact ⟨_, _, rfl, HA6.out.off (St.only_row _ _ _) (He.OffT.of_blk HV6.out (fun e => hne e)), HW6.out.off (St.only_row _ _ _) (He.OffT.of_blk HV6.out (fun e => hni e)), He.setRow_below HB6.out (by rw [HG.out]; exact Nat.le_refl _) _⟩
end Go.Proofs.YthfknndjdfofgaaGreatDoor.Tp
