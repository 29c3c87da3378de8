/-
 Contract of package tlspeek's All over this seat's translation: it answers what allT says.
-/
import Derived.Test.YthfknndjdfofgaaGreatDoorQ46
import Derived.Test.YthfknndjdfofgaaGreatDoorQ18
import Derived.Test.YthfknndjdfofgaaGreatDoorQ01
import Derived.Test.YthfknndjdfofgaaGreatDoorQ15
import Derived.Test.YthfknndjdfofgaaGreatDoorQ05
namespace Go.Proofs.YthfknndjdfofgaaGreatDoor.Tp
open Go.RowKit Go.Proofs.YthfknndjdfofgaaGreatDoor.Wd Go.Proofs.YthfknndjdfofgaaGreatDoor.Rc Go.Proofs.YthfknndjdfofgaaGreatDoor.Sh

structure AllAt (w : World) (G g : Nat) (S : List Nat) (t : T) (wr : World) : Prop where
 pk : Pk wr g S t
 far : ∀ i ∈ g :: S, G < i
 res : Blk wr G 31 #[Value.int .i64 0, .int .i64 0, .int .i64 0, .int .i64 0, .string ⟨#[]⟩, .int .i64 0, .bool false, .string ⟨#[]⟩, .slice none 0 0, .slice none 0 0, .bool false]
 bel : Below G w wr

set_option linter.unusedSimpArgs false in
set_option maxRecDepth 100000 in
set_option maxHeartbeats 8000000 in
theorem all_any {B : Nat} (A : Option Addr) (n cap : Nat) (xs : List UInt8) (w : World) (hE : Ad.Env B w) (hs : Src w A n xs) (hn : n ≤ 1000000) :
   Calls Tryz.prog 10 #[.slice A n cap] w (AllP xs w) := by
 have HE := Lib.hid hE
 have HS := Lib.hid hs
 have hnl := hs.1
 have HNL := Lib.hid hnl
 have HV0 := Lib.hid (Blk.new w 31 #[Value.int .i64 0, .int .i64 0, .int .i64 0, .int .i64 0, .string ⟨#[]⟩, .int .i64 0, .bool false, .string ⟨#[]⟩, .slice none 0 0, .slice none 0 0, .bool false])
 have HB0 : Hid (Below w.heap.size w (w.alloc (.cells #[Value.int .i64 0, .int .i64 0, .int .i64 0, .int .i64 0, .string ⟨#[]⟩, .int .i64 0, .bool false, .string ⟨#[]⟩, .slice none 0 0, .slice none 0 0, .bool false] 31))) := Lib.hid ((Below.refl _ _).alloc (Nat.le_refl _) _)
 clear hs hnl hE
 go_enter Tryz.func10, Tryz.ntmps10
 go_upto_region 1 with fail
 have hsz : (w.alloc (.cells #[Value.int .i64 0, .int .i64 0, .int .i64 0, .int .i64 0, .string ⟨#[]⟩, .int .i64 0, .bool false, .string ⟨#[]⟩, .slice none 0 0, .slice none 0 0, .bool false] 31)).heap.size = w.heap.size + 1 := St.alloc_size _ _
 generalize w.alloc (.cells #[Value.int .i64 0, .int .i64 0, .int .i64 0, .int .i64 0, .string ⟨#[]⟩, .int .i64 0, .bool false, .string ⟨#[]⟩, .slice none 0 0, .slice none 0 0, .bool false] 31) = w1 at *
 obtain ⟨G, hG⟩ : ∃ G, w.heap.size = G := ⟨_, rfl⟩
 have HG := Lib.hid hG
 have hBG : B ≤ G := by have := HE.out.le; omega
 rw [hG] at HV0 HB0 hsz ⊢
 clear hG
 go_wp2_with fail
 refine (new_any w1).mono ?_
 rintro e w2 ⟨g, S, rfl, hP, hfar, hb⟩
 have HA0 : Hid (AllAt w G g S (allT (xs.take 0)) w2) := Lib.hid ⟨hP, fun i hi => by have := hfar i hi; omega, HV0.out.below hb HV0.out.lt, HB0.out.trans (hb.mono (by omega))⟩
 clear hP hfar hb HV0 HB0 hsz
 go_wp2_with fail
 go_loopw [9] (fun i wr => ∃ k : Nat, k ≤ n ∧ i = .int .i64 (k : Int) ∧ Hid (∃ S, AllAt w G g S (allT (xs.take k)) wr)) (fun i _ => n - (intOf i).toNat)
 case atStart => exact ⟨0, Nat.zero_le _, rfl, Lib.hid ⟨S, HA0.out⟩⟩
 case round =>
   clear HA0
   obtain ⟨k, hk, rfl, HA⟩ := hrel
   obtain ⟨S, hA⟩ := HA.out
   have HA := Lib.hid hA
   clear hA
   by_cases hlt : k < n
   · have hki : (k : Int) < (n : Int) := by omega
     obtain ⟨ad, rfl, hadb, hc⟩ := HS.out.2 (by omega)
     obtain ⟨c, hx⟩ : ∃ c, xs[k]? = some c := ⟨_, List.getElem?_eq_getElem (by have := HNL.out; omega)⟩
     have hcell : wr.cell? (ad.add k) = some (.int .u8 (c.toNat : Int)) := (HA.out.bel.cell (by rw [block_of_add, ← HG.out]; exact hadb)).trans (hc k c hx)
     have HNx := Lib.hid (allT_next hx)
     have HX := Lib.hid hx
     have hdn : (allT (xs.take k)).d.n ≤ 4611686018427387904 := by
       have h := allT_n (xs.take k)
       rw [List.length_take] at h
       omega
     have hun : (allT (xs.take k)).u ≤ 4611686018427387904 := by
       have h := allT_u (xs.take k)
       rw [List.length_take] at h
       omega
     have hall : (allT (xs.take k)).z ≠ 0 → allT xs = allT (xs.take k) := fun h => by
       have := (known h).2.2.2 (xs.drop k)
       rwa [List.take_append_drop] at this
     have HAll := Lib.hid hall
     have kc := HA.out.pk.cell
     clear hc hx hall
     go_wp2_with fail
     refine (known_any wr g _ kc).mono ?_
     rintro e w3 ⟨rfl, rfl⟩
     by_cases hz : (allT (xs.take k)).z = 0
     · have HLk := Lib.hid (look_any (HE.out.on (HA.out.bel.mono (by rw [HG.out]; exact Nat.le_refl _))) (fun i hi => by have := HA.out.far i hi; omega) HA.out.pk hz hdn hun c)
       rw [← HNx.out] at HLk
       have q1 : decide ((allT (xs.take k)).z ≠ 0) = false := decide_eq_false (fun h => h hz)
       rw [q1]
       clear q1 hz kc HAll
       go_wp2_with fail
       refine HLk.out.mono ?_
       rintro e w4 ⟨rfl, S', hP, hS, hB⟩
       have hGw : G < wr.heap.size := HA.out.res.lt
       have HN : Hid (AllAt w G g S' (allT (xs.take (k + 1))) w4) := Lib.hid ⟨hP, fun i hi => by
           rcases List.mem_cons.1 hi with hi | hi
           · rw [hi]; exact HA.out.far g (by simp)
           · rcases hS i hi with h | h
             · exact HA.out.far i (List.mem_cons_of_mem _ h)
             · omega, HA.out.res.but hB (fun hi => Nat.lt_irrefl _ (HA.out.far G hi)), HA.out.bel.trans (hB.below (fun i hi => Nat.le_of_lt (HA.out.far i hi)) (Nat.le_of_lt hGw))⟩
       clear hP hS hB hGw HA HLk
       go_wp2_with fail
       go_roundw
       case rel => exact ⟨k + 1, hlt, by go_num, Lib.hid ⟨S', HN.out⟩⟩
       case measure => simp [intOf]; omega
     · have q1 : decide ((allT (xs.take k)).z ≠ 0) = true := decide_eq_true hz
       rw [q1]
       have HT : Hid (AllAt w G g S (allT xs) wr) := Lib.hid (by rw [HAll.out hz]; exact HA.out)
       clear q1 hz kc HAll HA HNx HX hcell hdn hun
       obtain ⟨va, vv, hR, hA, hW, hqa, hqv⟩ := HT.out.pk.told
       have HR := Lib.hid hR
       have hup : ∀ i ∈ S, G ≤ i := fun i hi => by have := HT.out.far i (List.mem_cons_of_mem _ hi); omega
       have HAv := Lib.hid (show Ex.RelP wr G va (allT xs).s.alpn from ⟨ownE_up hA.1 (fun b hb => hup b (hqa b hb)), hA.2⟩)
       have HWv := Lib.hid (show Ex.RelV wr G vv (allT xs).s.vers from ⟨ownE_up hW.1 (fun b hb => hup b (hqv b hb)), hW.2⟩)
       have HVb := Lib.hid HT.out.res
       have HBl := Lib.hid HT.out.bel
       obtain ⟨Av, cv, rfl⟩ := Ro.OwnE.form HAv.out.1
       obtain ⟨Aw, cw, rfl⟩ := Ro.OwnE.form HWv.out.1
       have hvl : (vC (allT xs).z 1 (allT xs).u (allT xs).r (str8 (allT xs).h) (allT xs).s (.slice Av (allT xs).s.alpn.length cv) (.slice Aw (allT xs).s.vers.length cw)).toList.length = 11 := rfl
       have HIn : Hid ((Tryz.prog.info? 31).map (·.size) = some (vC (allT xs).z 1 (allT xs).u (allT xs).r (str8 (allT xs).h) (allT xs).s (.slice Av (allT xs).s.alpn.length cv) (.slice Aw (allT xs).s.vers.length cw)).toList.length) := Lib.hid (by rw [hvl]; exact infV)
       have HFin : Hid (∀ w', Ex.RelP w' G (.slice Av (allT xs).s.alpn.length cv) (allT xs).s.alpn → Ex.RelV w' G (.slice Aw (allT xs).s.vers.length cw) (allT xs).s.vers → Below G w w' → AllP xs w (.returned (.agg (vC (allT xs).z 1 (allT xs).u (allT xs).r (str8 (allT xs).h) (allT xs).s (.slice Av (allT xs).s.alpn.length cv) (.slice Aw (allT xs).s.vers.length cw)))) w') := Lib.hid (fun w' h1 h2 h3 => ⟨_, _, rfl, by rw [HG.out]; exact h1, by rw [HG.out]; exact h2, by rw [HG.out]; exact h3⟩)
       clear hvl hR hA hW hqa hqv hup HT
       generalize allT xs = t at *
       go_wp2_with (first | (refine He.go_ldM (x := .tmp 21) 31 (vC t.z 1 t.u t.r (str8 t.h) t.s (.slice Av t.s.alpn.length cv) (.slice Aw t.s.vers.length cw)).toList g 2 HR.out undV rfl HIn.out (by rfl) rfl rfl ?_) | (refine He.go_st 31 HVb.out infV rfl (vC_size _ _ _ _ _ _ _ _) (vC_one _ _ _ _ _ _ _ _ _ _ _ _) rfl rfl rfl rfl ?_))
       refine St.ret_one Tryz.results10 (He.setRow_blk HVb.out) undV rfl infV rfl rfl ?_ rfl
       exact HFin.out _ (HAv.out.off (St.only_row _ _ _) (He.OffT.of_blk HVb.out (by decide))) (HWv.out.off (St.only_row _ _ _) (He.OffT.of_blk HVb.out (by decide))) (He.setRow_below HBl.out (Nat.le_refl _) _)
   · obtain rfl : k = n := by omega
     have ht : xs.take k = xs := List.take_of_length_le (by rw [HNL.out]; exact Nat.le_refl _)
     rw [ht] at HA
     have HT : Hid (AllAt w G g S (allT xs) wr) := HA
     clear ht HA
     obtain ⟨va, vv, hR, hA, hW, hqa, hqv⟩ := HT.out.pk.told
     have HR := Lib.hid hR
     have hup : ∀ i ∈ S, G ≤ i := fun i hi => by have := HT.out.far i (List.mem_cons_of_mem _ hi); omega
     have HAv := Lib.hid (show Ex.RelP wr G va (allT xs).s.alpn from ⟨ownE_up hA.1 (fun b hb => hup b (hqa b hb)), hA.2⟩)
     have HWv := Lib.hid (show Ex.RelV wr G vv (allT xs).s.vers from ⟨ownE_up hW.1 (fun b hb => hup b (hqv b hb)), hW.2⟩)
     have HVb := Lib.hid HT.out.res
     have HBl := Lib.hid HT.out.bel
     obtain ⟨Av, cv, rfl⟩ := Ro.OwnE.form HAv.out.1
     obtain ⟨Aw, cw, rfl⟩ := Ro.OwnE.form HWv.out.1
     have hvl : (vC (allT xs).z 1 (allT xs).u (allT xs).r (str8 (allT xs).h) (allT xs).s (.slice Av (allT xs).s.alpn.length cv) (.slice Aw (allT xs).s.vers.length cw)).toList.length = 11 := rfl
     have HIn : Hid ((Tryz.prog.info? 31).map (·.size) = some (vC (allT xs).z 1 (allT xs).u (allT xs).r (str8 (allT xs).h) (allT xs).s (.slice Av (allT xs).s.alpn.length cv) (.slice Aw (allT xs).s.vers.length cw)).toList.length) := Lib.hid (by rw [hvl]; exact infV)
     have HFin : Hid (∀ w', Ex.RelP w' G (.slice Av (allT xs).s.alpn.length cv) (allT xs).s.alpn → Ex.RelV w' G (.slice Aw (allT xs).s.vers.length cw) (allT xs).s.vers → Below G w w' → AllP xs w (.returned (.agg (vC (allT xs).z 1 (allT xs).u (allT xs).r (str8 (allT xs).h) (allT xs).s (.slice Av (allT xs).s.alpn.length cv) (.slice Aw (allT xs).s.vers.length cw)))) w') := Lib.hid (fun w' h1 h2 h3 => ⟨_, _, rfl, by rw [HG.out]; exact h1, by rw [HG.out]; exact h2, by rw [HG.out]; exact h3⟩)
     clear hvl hR hA hW hqa hqv hup HT
     generalize allT xs = t at *
     go_wp2_with (first | (refine He.go_ldM (x := .tmp 21) 31 (vC t.z 1 t.u t.r (str8 t.h) t.s (.slice Av t.s.alpn.length cv) (.slice Aw t.s.vers.length cw)).toList g 2 HR.out undV rfl HIn.out (by rfl) rfl rfl ?_) | (refine He.go_st 31 HVb.out infV rfl (vC_size _ _ _ _ _ _ _ _) (vC_one _ _ _ _ _ _ _ _ _ _ _ _) rfl rfl rfl rfl ?_))
     refine St.ret_one Tryz.results10 (He.setRow_blk HVb.out) undV rfl infV rfl rfl ?_ rfl
     exact HFin.out _ (HAv.out.off (St.only_row _ _ _) (He.OffT.of_blk HVb.out (by decide))) (HWv.out.off (St.only_row _ _ _) (He.OffT.of_blk HVb.out (by decide))) (He.setRow_below HBl.out (Nat.le_refl _) _)
end Go.Proofs.YthfknndjdfofgaaGreatDoor.Tp

/-
 Contract of package shake's Wrap over this seat's translation; what is wrapped, taken byte by byte (plain).
-/
namespace Go.Proofs.YthfknndjdfofgaaGreatDoor.Sh
open Go.RowKit Go.Proofs.YthfknndjdfofgaaGreatDoor.Wd

def headS (n : Nat) : List UInt8 := [1, 0, UInt8.ofNat (n / 256), UInt8.ofNat (n % 256)]
def wrapS (xs : List UInt8) : List UInt8 := headS xs.length ++ xs
theorem wrapS_len (xs : List UInt8) : (wrapS xs).length = xs.length + 4 := by unfold wrapS headS; simp
theorem byte_nat (k : Nat) (h : k < 256) : (UInt8.ofNat k).toNat = k := by rw [UInt8.toNat_ofNat']; omega
theorem run_head (n : Nat) (h : n ≤ 16384) : runM M.st (headS n) = ⟨4, n, [], 0⟩ := by
 have e1 := byte_nat (n / 256) (by omega)
 have e2 := byte_nat (n % 256) (by omega)
 have s1 : stepM M.st 1 = ⟨1, 0, [], 0⟩ := rfl
 have s2 : stepM ⟨1, 0, [], 0⟩ 0 = ⟨2, 0, [], 0⟩ := by simp [stepM]
 have s3 : stepM ⟨2, 0, [], 0⟩ (UInt8.ofNat (n / 256)) = ⟨3, n / 256 * 256, [], 0⟩ := by
   unfold stepM
   simp only [e1]
   rw [if_neg (by simp), if_neg (by simp), if_neg (by simp), if_pos trivial, if_pos (by omega)]
 have s4 : stepM ⟨3, n / 256 * 256, [], 0⟩ (UInt8.ofNat (n % 256)) = ⟨4, n, [], 0⟩ := by
   unfold stepM
   simp only [e2]
   rw [show n / 256 * 256 + n % 256 = n from by omega, if_neg (by simp), if_neg (by simp), if_neg (by simp), if_neg (by simp), if_pos trivial, if_pos h]
 unfold headS
 rw [runM_cons, s1, runM_cons, s2, runM_cons, s3, runM_cons, s4, runM_nil]
theorem run_body (n : Nat) (b ys : List UInt8) (h : b.length + ys.length ≤ n) : runM ⟨4, n, b, 0⟩ ys = ⟨4, n, b ++ ys, 0⟩ := by
 induction ys generalizing b with
 | nil => rw [runM_nil, List.append_nil]
 | cons c cs ih =>
   rw [List.length_cons] at h
   rw [runM_cons, stepM_body rfl rfl (by show b.length < n; omega)]
   show runM ⟨4, n, b ++ [c], 0⟩ cs = _
   rw [ih (b ++ [c]) (by rw [List.length_append, List.length_cons, List.length_nil]; omega), List.append_assoc]
   rfl
theorem run_wrap (xs : List UInt8) (h : xs.length ≤ 16384) : runM M.st (wrapS xs) = ⟨4, xs.length, xs, 0⟩ := by
 unfold wrapS
 rw [runM_app, run_head _ h, run_body _ _ _ (by simp)]
 rfl
theorem run_ahead (xs : List UInt8) (h : xs.length ≤ 16384) (k : Nat) (hk : 4 ≤ k) : runM M.st ((wrapS xs).take k) = ⟨4, xs.length, xs.take (k - 4), 0⟩ := by
 unfold wrapS
 have e : (headS xs.length).length = 4 := rfl
 rw [List.take_append, List.take_of_length_le (by omega), e, runM_app, run_head _ h, run_body _ _ _ (by simp; omega)]
 rfl
theorem run_few (xs : List UInt8) (h : xs.length ≤ 16384) (k : Nat) (hk : k < 4) : (runM M.st ((wrapS xs).take k)).e = 0 ∧ (runM M.st ((wrapS xs).take k)).h = k := by
 have e : (wrapS xs).take k = (headS xs.length).take k := by
   unfold wrapS
   have e : (headS xs.length).length = 4 := rfl
   rw [List.take_append_of_le_length (by omega)]
 rw [e]
 have e1 := byte_nat (xs.length / 256) (by omega)
 obtain rfl | rfl | rfl | rfl : k = 0 ∨ k = 1 ∨ k = 2 ∨ k = 3 := by omega
 · exact ⟨rfl, rfl⟩
 · exact ⟨rfl, rfl⟩
 · exact ⟨rfl, rfl⟩
 · have s3 : stepM ⟨2, 0, [], 0⟩ (UInt8.ofNat (xs.length / 256)) = ⟨3, xs.length / 256 * 256, [], 0⟩ := by
     unfold stepM
     simp only [e1]
     rw [if_neg (by simp), if_neg (by simp), if_neg (by simp), if_pos trivial, if_pos (by omega)]
   show (stepM ⟨2, 0, [], 0⟩ (UInt8.ofNat (xs.length / 256))).e = 0 ∧ (stepM ⟨2, 0, [], 0⟩ (UInt8.ofNat (xs.length / 256))).h = 3
   rw [s3]
   exact ⟨rfl, rfl⟩
theorem wrap_at (xs : List UInt8) (h : xs.length ≤ 16384) (k : Nat) (hk : k ≤ xs.length + 4) :
   (runM M.st ((wrapS xs).take k)).e = 0 ∧ wholeM (runM M.st ((wrapS xs).take k)) = decide (k = xs.length + 4) ∧ bodyM (runM M.st ((wrapS xs).take k)) = if k = xs.length + 4 then xs else [] := by
 have ok := runM_ok OkM.st ((wrapS xs).take k)
 have hw : wholeM (runM M.st ((wrapS xs).take k)) = decide (k = xs.length + 4) := by
   rw [Bool.eq_iff_iff, whole_iff ok, decide_eq_true_iff]
   by_cases h4 : 4 ≤ k
   · rw [run_ahead xs h k h4]
     simp only [List.length_take]
     constructor
     · rintro ⟨-, -, h3⟩; omega
     · intro h3; exact ⟨trivial, trivial, by omega⟩
   · obtain ⟨f1, f2⟩ := run_few xs h k (by omega)
     rw [f1, f2]
     constructor
     · rintro ⟨-, h2, -⟩; omega
     · intro h3; omega
 refine ⟨?_, hw, ?_⟩
 · by_cases h4 : 4 ≤ k
   · rw [run_ahead xs h k h4]
   · exact (run_few xs h k (by omega)).1
 · unfold bodyM
   rw [hw]
   by_cases hl : k = xs.length + 4
   · rw [if_pos (decide_eq_true hl), if_pos hl, run_ahead xs h k (by omega)]
     show xs.take (k - 4) = xs
     rw [List.take_of_length_le (by omega)]
   · rw [if_neg (by simp [hl]), if_neg hl]

end Go.Proofs.YthfknndjdfofgaaGreatDoor.Sh

/-
 In plain words: framed bytes of a wrapped body are known by their last byte, whatever size the records have. No condition.
-/
namespace Go.Proofs.YthfknndjdfofgaaGreatDoor.Tp
open Go.Proofs.YthfknndjdfofgaaGreatDoor.Rc Go.Proofs.YthfknndjdfofgaaGreatDoor.Sh

theorem pay_of {d : D} {c : UInt8} {n : Nat} (h : stepD d c = D.st n) : payD d = true := by
 have ha : (stepD d c).a = 0 := by rw [h]; rfl
 have he : (stepD d c).e = 0 := by rw [h]; rfl
 obtain ⟨a, l, m, e⟩ := d
 unfold stepD at ha he
 unfold payD
 simp only at ha he ⊢
 by_cases h0 : e = 0
 · subst h0
   rw [if_neg (by simp)] at ha he
   by_cases a5 : 5 ≤ a
   · exact decide_eq_true ⟨rfl, a5⟩
   · exfalso
     obtain rfl | rfl | rfl | rfl | rfl : a = 0 ∨ a = 1 ∨ a = 2 ∨ a = 3 ∨ a = 4 := by omega
     · rw [if_pos rfl] at ha he
       split at ha
       · exact absurd ha (by simp)
       · rename_i h; rw [if_neg h] at he; exact absurd he (by simp)
     · rw [if_neg (by simp), if_pos rfl] at ha he
       split at ha <;> exact absurd ha (by simp)
     · rw [if_neg (by simp), if_neg (by simp), if_pos rfl] at ha he
       split at ha <;> exact absurd ha (by simp)
     · rw [if_neg (by simp), if_neg (by simp), if_neg (by simp), if_pos rfl] at ha he
       split at ha <;> exact absurd ha (by simp)
     · rw [if_neg (by simp), if_neg (by simp), if_neg (by simp), if_neg (by simp), if_pos rfl] at ha he
       split at ha <;> exact absurd ha (by simp)
 · rw [if_pos h0] at he
   exact absurd he h0
theorem framed_known (x : List UInt8) (hx : x.length ≤ 16384) (k : Nat) (hk : k + 1 ≤ 16384) :
   ∃ d m, allT (frameS k (wrapS x)) = if (lookS x).2.2 ≠ 0 then ⟨d, m, 2, (frameS k (wrapS x)).length, (lookS x).2.2, [], Ex.Sn.zero⟩ else ⟨d, m, 1, (frameS k (wrapS x)).length, 0, (lookS x).1, (lookS x).2.1⟩ := by
 have hwl := wrapS_len x
 obtain ⟨r1, r2, r3⟩ := run_frame k hk (wrapS x).length (wrapS x) 0 (Nat.le_refl _)
 obtain ⟨ys, hys⟩ : ∃ ys, frameS k (wrapS x) = ys := ⟨_, rfl⟩
 rw [hys] at r1 r2 r3 ⊢
 have hne : ys ≠ [] := by
   intro e
   rw [e] at r3
   simp at r3
   omega
 obtain ⟨zs, c, rfl⟩ : ∃ zs c, ys = zs ++ [c] := by
   rcases List.eq_nil_or_concat ys with h0 | ⟨zs, c, h1⟩
   · exact absurd h0 hne
   · exact ⟨zs, c, by rw [h1]; simp⟩
 have hst : stepD (runD (D.st 0) zs) c = D.st (0 + recsN k (wrapS x)) := by
   rw [runD_app] at r1
   exact r1
 have hp := pay_of hst
 have hout : outD (D.st 0) zs ++ [c] = wrapS x := by
   rw [outD_app, outD, hp] at r2
   exact r2
 have hol : (outD (D.st 0) zs).length = x.length + 3 := by
   have := congrArg List.length hout
   rw [List.length_append, hwl] at this
   simp at this
   omega
 have htk : ∀ j, j ≤ x.length + 3 → (outD (D.st 0) zs).take j = (wrapS x).take j := fun j hj => by
   rw [← hout, List.take_append_of_le_length (by omega)]
 have he0 : (runD (D.st 0) zs).e = 0 := by
   have : (stepD (runD (D.st 0) zs) c).e = 0 := by rw [hst]; rfl
   rcases Nat.eq_zero_or_pos (runD (D.st 0) zs).e with h | h
   · exact h
   · rw [stepD_stay (by omega)] at this; exact this
 obtain ⟨o1, o2, o3⟩ := run_open zs T.st rfl he0 (fun j => by
   by_cases hj : j ≤ x.length + 3
   · show (runM M.st ((outD (D.st 0) zs).take j)).e = 0
     rw [htk j hj]
     exact (wrap_at x hx j (by omega)).1
   · show (runM M.st ((outD (D.st 0) zs).take j)).e = 0
     rw [List.take_of_length_le (by omega), ← List.take_of_length_le (l := outD (D.st 0) zs) (i := x.length + 3) (by omega), htk _ (Nat.le_refl _)]
     exact (wrap_at x hx _ (by omega)).1) (fun j hj => .inl (by
   show wholeM (runM M.st ((outD (D.st 0) zs).take j)) = false
   have hj : j ≤ x.length + 3 := by rw [← hol]; exact hj
   rw [htk j hj, (wrap_at x hx j (by omega)).2.1]
   exact decide_eq_false (by omega)))
 have hm : stepM (runT T.st zs).m c = runM M.st (wrapS x) := by
   rw [o3, ← hout, runM_app]
   rfl
 have hw := wrap_at x hx (x.length + 4) (Nat.le_refl _)
 rw [List.take_of_length_le (by omega), if_pos rfl, decide_eq_true rfl] at hw
 have hb : (runM M.st (wrapS x)).b = x := by rw [run_wrap x hx]
 have hu : (runT T.st zs).u = zs.length := by
   have := runT_used zs o1
   rw [show T.st.u = 0 from rfl, Nat.zero_add] at this
   exact this
 refine ⟨stepD (runT T.st zs).d c, stepM (runT T.st zs).m c, ?_⟩
 show runT T.st (zs ++ [c]) = _
 rw [runT_app]
 show stepT (runT T.st zs) c = _
 unfold stepT
 rw [if_neg (by omega), if_neg (by rw [o2]; show ¬ (stepD (runD (D.st 0) zs) c).e ≠ 0; rw [hst]; simp [D.st]), if_neg (by rw [o2]; show ¬ payD (runD (D.st 0) zs) = false; rw [hp]; simp),
   hm, if_neg (by rw [hw.1]; simp), if_neg (by rw [hw.2.1]; simp), hb, List.length_append, List.length_cons, List.length_nil]
 unfold T.bad
 rw [hu]
end Go.Proofs.YthfknndjdfofgaaGreatDoor.Tp

/-
 Plain facts: what is put is read as it was; data of which some is missing, or behind which more stands, is none. No condition.
-/
namespace Go.Proofs.YthfknndjdfofgaaGreatDoor.Ex
open Go.RowKit Go.Proofs.YthfknndjdfofgaaGreatDoor.Wd Go.Proofs.YthfknndjdfofgaaGreatDoor.Be Go.Proofs.YthfknndjdfofgaaGreatDoor.He

theorem items_cat {α : Type} {one : Option (List UInt8) → α × Option (List UInt8)} {put : α → Option (List UInt8)} (h : ∀ x a rest, put x = some a → one (some (a ++ rest)) = (x, some rest) ∧ 0 < a.length) :
   ∀ (l : List α) (w : List UInt8) (f : Nat), catO put l = some w → w.length < f → itemsF one f (some w) = (l, true)
 | [], w, f, hc, hf => by
   injection hc with hc
   subst hc
   rw [itemsF_end rfl]
   rfl
 | x :: l, w, 0, hc, hf => absurd hf (Nat.not_lt_zero _)
 | x :: l, w, f + 1, hc, hf => by
   rw [catO] at hc
   cases hp : put x with
   | none => rw [hp] at hc; cases hc
   | some a =>
     rw [hp] at hc
     cases hq : catO put l with
     | none => rw [hq] at hc; cases hc
     | some b =>
       rw [hq] at hc
       injection hc with hc
       subst hc
       obtain ⟨h1, h2⟩ := h x a b hp
       have h3 : 0 < leftS (some (a ++ b)) := by show 0 < (a ++ b).length; rw [List.length_append]; omega
       rw [itemsF_step h3, h1]
       have ih := items_cat h l b f hq (by rw [List.length_append] at hf; omega)
       rw [ih]
theorem items_catS {α : Type} {one : Option (List UInt8) → α × Option (List UInt8)} {put : α → Option (List UInt8)} (h : ∀ x a rest, put x = some a → one (some (a ++ rest)) = (x, some rest) ∧ 0 < a.length)
   {l : List α} {w : List UInt8} (hc : catO put l = some w) : itemsS one w = (l, true) := items_cat h l w _ hc (by omega)
theorem read_vec {α : Type} {one : Option (List UInt8) → α × Option (List UInt8)} {k : Nat} {size : Int} {w : List UInt8} {l : List α} (hk : clampI size = k) (hw : w.length < 256 ^ k) (hi : itemsS one w = (l, true)) (hl : l ≠ []) : readS one size (vecB k w) = (l, true) := by
 have hlt : (w.length : Int) < 256 ^ k := by
   have : ((256 ^ k : Nat) : Int) = 256 ^ k := by rw [Int.natCast_pow]; rfl
   omega
 have hv : vecS (some (vecB k w)) size = (w, some []) := by
   have := vecS_app w [] size k hk hlt
   rwa [List.append_nil] at this
 have h3 : 0 < l.length := List.length_pos_iff.2 hl
 show ((itemsS one (vecS (some (vecB k w)) size).1).1, doneS (vecS (some (vecB k w)) size).2 && (itemsS one (vecS (some (vecB k w)) size).1).2 && decide (0 < (itemsS one (vecS (some (vecB k w)) size).1).1.length)) = _
 rw [hv, hi]
 simp [doneS, h3]
theorem layS_is {α : Type} {put : α → Option (List UInt8)} {k : Nat} {l : List α} {d : List UInt8} (h : layS put k l = some d) : ∃ w, catO put l = some w ∧ w ≠ [] ∧ w.length < 256 ^ k ∧ d = vecB k w := by
 rw [layS] at h
 cases hc : catO put l with
 | none => rw [hc] at h; cases h
 | some w =>
   rw [hc] at h
   simp only at h
   split at h
   · cases h
   · rename_i h0
     split at h
     · rename_i h1
       injection h with h
       exact ⟨w, rfl, h0, h1, h.symm⟩
     · cases h
theorem catO_ne {α : Type} {put : α → Option (List UInt8)} {l : List α} {w : List UInt8} (hc : catO put l = some w) (hw : w ≠ []) : l ≠ [] := fun h => by
 rw [h] at hc
 injection hc with hc
 exact hw hc.symm
theorem oneP (x a rest : List UInt8) (h : putP x = some a) : proO (some (a ++ rest)) = (x, some rest) ∧ 0 < a.length := by
 unfold putP at h
 split at h
 · cases h
 · split at h
   · rename_i h1
     injection h with h
     subst h
     exact ⟨vecS_app x rest 1 1 (by decide) (by have : (256 : Int) ^ 1 = 256 := rfl; omega), by rw [vecB_len]; omega⟩
   · cases h
theorem putP_ne {x a : List UInt8} (h : putP x = some a) : x ≠ [] := by
 unfold putP at h
 split at h
 · cases h
 · assumption
theorem catP_ne : ∀ {l : List (List UInt8)} {w : List UInt8}, catO putP l = some w → [] ∉ l
 | [], _, _ => by simp
 | x :: l, w, h => by
   rw [catO] at h
   cases hp : putP x with
   | none => rw [hp] at h; cases h
   | some a =>
     rw [hp] at h
     cases hq : catO putP l with
     | none => rw [hq] at h; cases h
     | some b =>
       intro hm
       rcases List.mem_cons.1 hm with hm | hm
       · exact putP_ne hp hm.symm
       · exact catP_ne hq hm
theorem proto_back {l : List (List UInt8)} {d : List UInt8} (h : layS putP 2 l = some d) : protoS d = (l, 0) := by
 obtain ⟨w, hc, hw, hl, rfl⟩ := layS_is h
 have hr := read_vec (one := proO) (size := 2) (by decide) hl (items_catS oneP hc) (catO_ne hc hw)
 have hn := catP_ne hc
 have hcn : l.contains [] = false := by rw [Bool.eq_false_iff, Ne, List.contains_iff_mem]; exact hn
 rw [protoS, hr]
 simp [hn]
theorem name_back {x d : List UInt8} (h : layS putN 2 [x] = some d) : nameS d = (x, 0) := by
 obtain ⟨w, hc, hw, hl, rfl⟩ := layS_is h
 have hm : mayS x = true := by
   cases hm : mayS x with
   | true => rfl
   | false =>
     have hp : putN x = none := by rw [putN, hm]; rfl
     simp only [catO, hp] at hc
     cases hc
 have hp : putN x = some ((0 : UInt8) :: vecB 2 x) := if_pos hm
 have hwe : w = (0 : UInt8) :: vecB 2 x := by
   simp only [catO, hp, List.append_nil] at hc
   injection hc with hc
   exact hc.symm
 have hx : x.length ≤ 255 := by
   unfold mayS at hm
   rw [Bool.and_eq_true] at hm
   exact of_decide_eq_true hm.1
 have hn : ∀ rest, numS (some ((0 : UInt8) :: (vecB 2 x ++ rest))) 1 = (0, some (vecB 2 x ++ rest)) := fun rest => by
   have := numS_app 0 (vecB 2 x ++ rest) 1 1 (by decide) (by omega) (by decide)
   exact this
 have hone : typO (some w) = ((0, x), some []) := by
   have h1 := hn []
   rw [List.append_nil] at h1
   have h2 := vecS_app x [] 2 2 (by decide) (by have : (256 : Int) ^ 2 = 65536 := rfl; omega)
   rw [List.append_nil] at h2
   unfold typO
   rw [hwe, h1]
   simp only
   rw [h2]
   rfl
 have hi : itemsS typO w = ([(0, x)], true) := by
   unfold itemsS
   have h0 : 0 < leftS (some w) := by rw [hwe]; show 0 < ((0 : UInt8) :: vecB 2 x).length; simp
   rw [itemsF_step h0, hone, itemsF_end rfl]
   rfl
 have hr := read_vec (one := typO) (size := 2) (by decide) hl hi (by simp)
 rw [nameS, hr]
 have hf : [((0 : Int), x)].filter hostB = [(0, x)] := rfl
 simp only [if_true, hf]
 show (if mayS x then (x, 0) else ([], 9)) = _
 rw [hm]
 rfl
end Go.Proofs.YthfknndjdfofgaaGreatDoor.Ex

/-
 In plain words: what a look tells of the hello that law 15 lays out of a name and protocols. No condition.
-/
namespace Go.Proofs.YthfknndjdfofgaaGreatDoor.Tp
open Go.Proofs.YthfknndjdfofgaaGreatDoor.Rc Go.Proofs.YthfknndjdfofgaaGreatDoor.Sh

def helB (d p : List UInt8) : He.Hel := ⟨771, List.replicate 32 0, [], [4865], [0], true, [(0, d), (16, p)]⟩
theorem exts_len (d p : List UInt8) : (He.extsB (helB d p).exts).length = 8 + d.length + p.length := by
 show (He.extsB [(0, d), (16, p)]).length = _
 rw [He.extsB_cons, He.extsB_cons]
 simp only [List.length_append, He.two_len, Be.vecB_len]
 have : (He.extsB []).length = 0 := rfl
 omega
theorem right_hel (d p : List UInt8) (hd : d.length ≤ 300) (hp : p.length ≤ 2000) : He.Right (helB d p) := by
 refine (He.right_iff (by show (List.replicate 32 (0 : UInt8)).length = 32; rfl)).2 ⟨?_, by simp [helB], by simp [helB], ?_, by simp [helB], by simp [helB], ?_, by rw [exts_len]; omega⟩
 · exact He.wrong_ok.2 ⟨rfl, by simp [helB], by simp [helB], by simp [helB]⟩
 · intro n hn
   have : n = 4865 := by simpa [helB] using hn
   rw [this]
   exact ⟨by decide, by decide⟩
 · intro x hx
   have : x = (0, d) ∨ x = (16, p) := by simpa [helB] using hx
   rcases this with rfl | rfl
   · exact ⟨(by show He.In2 0; constructor <;> decide), by show d.length < 65536; omega⟩
   · exact ⟨(by show He.In2 16; constructor <;> decide), by show p.length < 65536; omega⟩
theorem hel_len (d p : List UInt8) : (He.layS (helB d p)).length = 51 + d.length + p.length := by
 have e : He.layS (helB d p) = He.headB (helB d p) ++ Be.vecB 2 (He.extsB (helB d p).exts) := rfl
 rw [e, List.length_append, Be.vecB_len, exts_len]
 have : (He.headB (helB d p)).length = 41 := by
   show (He.two 771 ++ (List.replicate 32 (0 : UInt8) ++ (Be.vecB 1 [] ++ (Be.vecB 2 (He.numsB [4865]) ++ Be.vecB 1 [0])))).length = 41
   simp only [List.length_append, He.two_len, Be.vecB_len, He.numsB_len, List.length_replicate, List.length_cons, List.length_nil]
 omega
theorem look_hel {s : List UInt8} {l : List (List UInt8)} {d p : List UInt8} (h1 : Ex.layS Ex.putN 2 [s] = some d) (h2 : Ex.layS Ex.putP 2 l = some p) (hd : d.length ≤ 300) (hp : p.length ≤ 2000) :
   lookS (He.layS (helB d p)) = if (Nm.normalS s).2 ≠ 0 then ([], Ex.Sn.zero, (Nm.normalS s).2) else ((Nm.normalS s).1, ⟨true, s, l, [], false⟩, 0) := by
 have hP := He.parse_lay (right_hel d p hd hp)
 have hS : Ex.seeS (helB d p).exts = (⟨true, s, l, [], false⟩, 0) := by
   have f0 : He.findL [(0, d), (16, p)] 0 = (d, true) := rfl
   have f1 : He.findL [(0, d), (16, p)] 16 = (p, true) := rfl
   have f2 : He.findL [(0, d), (16, p)] 43 = ([], false) := rfl
   have f3 : He.findL [(0, d), (16, p)] 65037 = ([], false) := rfl
   show Ex.seeS [(0, d), (16, p)] = _
   unfold Ex.seeS Ex.errS
   rw [f0, f1, f2, f3]
   have n0 : Ex.fdS Ex.nameS (d, true) = (s, 0) := by show Ex.nameS d = _; exact Ex.name_back h1
   have n1 : Ex.fdS Ex.protoS (p, true) = (l, 0) := by show Ex.protoS p = _; exact Ex.proto_back h2
   have n2 : Ex.fdS Ex.verS (([] : List UInt8), false) = ([], 0) := rfl
   rw [n0, n1, n2]
   rfl
 unfold lookS
 rw [hP]
 simp only
 rw [if_neg (by simp), hS]
 simp only
 rw [if_neg (by simp), if_pos trivial]
theorem sizes_known {s : List UInt8} {l : List (List UInt8)} {d p : List UInt8} (h1 : Ex.layS Ex.putN 2 [s] = some d) (h2 : Ex.layS Ex.putP 2 l = some p) (hd : d.length ≤ 300) (hp : p.length ≤ 2000) (k : Nat) (hk : k + 1 ≤ 16384) :
   ∃ e m, allT (frameS k (wrapS (He.layS (helB d p)))) = if (Nm.normalS s).2 ≠ 0 then ⟨e, m, 2, (frameS k (wrapS (He.layS (helB d p)))).length, (Nm.normalS s).2, [], Ex.Sn.zero⟩ else ⟨e, m, 1, (frameS k (wrapS (He.layS (helB d p)))).length, 0, (Nm.normalS s).1, ⟨true, s, l, [], false⟩⟩ := by
 obtain ⟨e, m, h⟩ := framed_known (He.layS (helB d p)) (by rw [hel_len]; omega) k hk
 refine ⟨e, m, h.trans ?_⟩
 rw [look_hel h1 h2 hd hp]
 by_cases hz : (Nm.normalS s).2 = 0
 · have hn : ¬ (Nm.normalS s).2 ≠ 0 := by rw [hz]; simp
   rw [if_neg hn, if_neg hn, if_neg (by simp)]
 · rw [if_pos hz, if_pos hz, if_pos (by exact hz)]
end Go.Proofs.YthfknndjdfofgaaGreatDoor.Tp
