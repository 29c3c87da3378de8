/-
 Contract of the document's own Vec of layer 1 (hagioscoperef01).
-/
import Derived.Test.YthfknndjdfofgaaGreatDoorR19
import Derived.Test.YthfknndjdfofgaaGreatDoorR20
import Derived.Test.YthfknndjdfofgaaGreatDoorR21
import Derived.Test.YthfknndjdfofgaaGreatDoorR23
import Derived.Test.YthfknndjdfofgaaGreatDoorR24
namespace Go.Proofs.YthfknndjdfofgaaGreatDoor.RefBe
open Go.RowKit Go.Proofs.YthfknndjdfofgaaGreatDoor.Wd Go.Proofs.YthfknndjdfofgaaGreatDoor.Be

def VecPost (w : World) (xs : List UInt8) (ok : Bool) (e : Ending) (w' : World) : Prop :=
 ∃ v, e = .returned (.tuple #[v, .bool ok]) ∧ Own w' w.heap.size v xs ∧ Below w.heap.size w w'

set_option maxHeartbeats 1000000 in
theorem rvec_no (A : Option Addr) (n c k : Nat) (B : Option Addr) (m d : Nat) (size : Int) (xs : List UInt8) (w : World) (hs : Src w A n xs) (hn : n ≤ 100000) (hm : m ≤ 100000) (hk : clampI size = k) (hlong : ¬ (m : Int) < 256 ^ k) :
   Calls Tryz.prog 58 #[.slice A n c, .int .i64 size, .slice B m d] w (VecPost w xs false) := by
 have hbd := clampI_bd size
 have Hk := Lib.hid hk
 have hown0 := Lib.hid (Own.empty w w.heap.size (Nat.le_refl _))
 have hs0 := Lib.hid (hs.alloc (.cells #[] 5))
 have hinfo := Lib.hid info8
 obtain rfl | rfl | rfl | rfl : k = 1 ∨ k = 2 ∨ k = 3 ∨ k = 4 := by omega
 all_goals
   simp only [Int.reducePow] at hlong
   clear hk hbd hs
   go_enter Tryz.func58, Tryz.ntmps58
   go_wp2_with fail
   refine (rclamp_any _ _).mono ?_
   rintro e w2 ⟨rfl, rfl⟩
   rw [Hk.out]
   first
     | (exfalso; omega)
     | (go_wp2_with (at_builtin; refine wpList_app rfl (.tmp 16) (.tmp 17) 22 rfl Tryz.underlying22 hinfo.out w.heap.size _ [] rfl hown0.out A n c xs rfl hs0.out (by simp; omega) (by simp) ?_; intro v1 w1 HO1 hb1)
        go_ret2
        exact ⟨v1, rfl, by have h := HO1.out; rwa [List.nil_append] at h, ((Below.refl _ _).alloc (Nat.le_refl _) _).trans hb1⟩)

set_option maxHeartbeats 1000000 in
theorem rvec_yes1 (A : Option Addr) (n c : Nat) (B : Option Addr) (m d : Nat) (size : Int) (xs ys : List UInt8) (w : World) (hs : Src w A n xs) (ht : Src w B m ys) (hn : n ≤ 100000) (hm : m ≤ 100000) (hk : clampI size = 1) (_hlong : (m : Int) < 256) :
   Calls Tryz.prog 58 #[.slice A n c, .int .i64 size, .slice B m d] w (VecPost w (xs ++ bytesOf m 1 ++ ys) true) := by
 have Hk := Lib.hid hk
 have hinfo := Lib.hid info8
 have Hl := Lib.hid hs.1
 have HS := Lib.hid hs
 have HT := Lib.hid ht
 have hd1 : decide ((256 : Int) ≤ (m : Int)) = false := by rw [decide_eq_false_iff_not]; omega
 have Hlen : Hid ((xs ++ bytesOf (m : Int) 1).length + m ≤ 140737488355328) := by
   show _ ≤ _
   rw [List.length_append, bytesOf_length, Hl.out]
   omega
 clear hk hs ht _hlong
 go_enter Tryz.func58, Tryz.ntmps58
 go_wp2_with fail
 refine (rclamp_any _ _).mono ?_
 rintro e w2 ⟨rfl, rfl⟩
 rw [Hk.out]
 go_wp2_with fail
 refine (rput_any A n c 1 m size xs w HS.out hn Hk.out).mono ?_
 rintro e w1 ⟨v1, rfl, hown1, hb1⟩
 have HO := Lib.hid hown1
 have HT1 := Lib.hid (HT.out.below hb1)
 clear hown1
 go_wp2_with (at_builtin; refine wpList_app rfl (.tmp 23) (.tmp 24) 22 rfl Tryz.underlying22 hinfo.out w.heap.size _ _ rfl HO.out B m d ys rfl HT1.out Hlen.out hb1.size ?_; intro v2 w2 HO2 hb2)
 go_ret2
 exact ⟨v2, rfl, HO2.out, hb1.trans hb2⟩

set_option maxHeartbeats 1000000 in
theorem rvec_yes2 (A : Option Addr) (n c : Nat) (B : Option Addr) (m d : Nat) (size : Int) (xs ys : List UInt8) (w : World) (hs : Src w A n xs) (ht : Src w B m ys) (hn : n ≤ 100000) (hm : m ≤ 100000) (hk : clampI size = 2) (_hlong : (m : Int) < 65536) :
   Calls Tryz.prog 58 #[.slice A n c, .int .i64 size, .slice B m d] w (VecPost w (xs ++ bytesOf m 2 ++ ys) true) := by
 have Hk := Lib.hid hk
 have hinfo := Lib.hid info8
 have Hl := Lib.hid hs.1
 have HS := Lib.hid hs
 have HT := Lib.hid ht
 have hd1 : decide ((65536 : Int) ≤ (m : Int)) = false := by rw [decide_eq_false_iff_not]; omega
 have Hlen : Hid ((xs ++ bytesOf (m : Int) 2).length + m ≤ 140737488355328) := by
   show _ ≤ _
   rw [List.length_append, bytesOf_length, Hl.out]
   omega
 clear hk hs ht _hlong
 go_enter Tryz.func58, Tryz.ntmps58
 go_wp2_with fail
 refine (rclamp_any _ _).mono ?_
 rintro e w2 ⟨rfl, rfl⟩
 rw [Hk.out]
 go_wp2_with fail
 refine (rput_any A n c 2 m size xs w HS.out hn Hk.out).mono ?_
 rintro e w1 ⟨v1, rfl, hown1, hb1⟩
 have HO := Lib.hid hown1
 have HT1 := Lib.hid (HT.out.below hb1)
 clear hown1
 go_wp2_with (at_builtin; refine wpList_app rfl (.tmp 23) (.tmp 24) 22 rfl Tryz.underlying22 hinfo.out w.heap.size _ _ rfl HO.out B m d ys rfl HT1.out Hlen.out hb1.size ?_; intro v2 w2 HO2 hb2)
 go_ret2
 exact ⟨v2, rfl, HO2.out, hb1.trans hb2⟩

set_option maxHeartbeats 1000000 in
theorem rvec_yes3 (A : Option Addr) (n c : Nat) (B : Option Addr) (m d : Nat) (size : Int) (xs ys : List UInt8) (w : World) (hs : Src w A n xs) (ht : Src w B m ys) (hn : n ≤ 100000) (hm : m ≤ 100000) (hk : clampI size = 3) (_hlong : (m : Int) < 16777216) :
   Calls Tryz.prog 58 #[.slice A n c, .int .i64 size, .slice B m d] w (VecPost w (xs ++ bytesOf m 3 ++ ys) true) := by
 have Hk := Lib.hid hk
 have hinfo := Lib.hid info8
 have Hl := Lib.hid hs.1
 have HS := Lib.hid hs
 have HT := Lib.hid ht
 have hd1 : decide ((16777216 : Int) ≤ (m : Int)) = false := by rw [decide_eq_false_iff_not]; omega
 have Hlen : Hid ((xs ++ bytesOf (m : Int) 3).length + m ≤ 140737488355328) := by
   show _ ≤ _
   rw [List.length_append, bytesOf_length, Hl.out]
   omega
 clear hk hs ht _hlong
 go_enter Tryz.func58, Tryz.ntmps58
 go_wp2_with fail
 refine (rclamp_any _ _).mono ?_
 rintro e w2 ⟨rfl, rfl⟩
 rw [Hk.out]
 go_wp2_with fail
 refine (rput_any A n c 3 m size xs w HS.out hn Hk.out).mono ?_
 rintro e w1 ⟨v1, rfl, hown1, hb1⟩
 have HO := Lib.hid hown1
 have HT1 := Lib.hid (HT.out.below hb1)
 clear hown1
 go_wp2_with (at_builtin; refine wpList_app rfl (.tmp 23) (.tmp 24) 22 rfl Tryz.underlying22 hinfo.out w.heap.size _ _ rfl HO.out B m d ys rfl HT1.out Hlen.out hb1.size ?_; intro v2 w2 HO2 hb2)
 go_ret2
 exact ⟨v2, rfl, HO2.out, hb1.trans hb2⟩

set_option maxHeartbeats 1000000 in
theorem rvec_yes4 (A : Option Addr) (n c : Nat) (B : Option Addr) (m d : Nat) (size : Int) (xs ys : List UInt8) (w : World) (hs : Src w A n xs) (ht : Src w B m ys) (hn : n ≤ 100000) (hm : m ≤ 100000) (hk : clampI size = 4) (_hlong : (m : Int) < 4294967296) :
   Calls Tryz.prog 58 #[.slice A n c, .int .i64 size, .slice B m d] w (VecPost w (xs ++ bytesOf m 4 ++ ys) true) := by
 have Hk := Lib.hid hk
 have hinfo := Lib.hid info8
 have Hl := Lib.hid hs.1
 have HS := Lib.hid hs
 have HT := Lib.hid ht
 have hd1 : decide ((4294967296 : Int) ≤ (m : Int)) = false := by rw [decide_eq_false_iff_not]; omega
 have Hlen : Hid ((xs ++ bytesOf (m : Int) 4).length + m ≤ 140737488355328) := by
   show _ ≤ _
   rw [List.length_append, bytesOf_length, Hl.out]
   omega
 clear hk hs ht _hlong
 go_enter Tryz.func58, Tryz.ntmps58
 go_wp2_with fail
 refine (rclamp_any _ _).mono ?_
 rintro e w2 ⟨rfl, rfl⟩
 rw [Hk.out]
 go_wp2_with fail
 refine (rput_any A n c 4 m size xs w HS.out hn Hk.out).mono ?_
 rintro e w1 ⟨v1, rfl, hown1, hb1⟩
 have HO := Lib.hid hown1
 have HT1 := Lib.hid (HT.out.below hb1)
 clear hown1
 go_wp2_with (at_builtin; refine wpList_app rfl (.tmp 23) (.tmp 24) 22 rfl Tryz.underlying22 hinfo.out w.heap.size _ _ rfl HO.out B m d ys rfl HT1.out Hlen.out hb1.size ?_; intro v2 w2 HO2 hb2)
 go_ret2
 exact ⟨v2, rfl, HO2.out, hb1.trans hb2⟩

theorem rvec_yes (A : Option Addr) (n c k : Nat) (B : Option Addr) (m d : Nat) (size : Int) (xs ys : List UInt8) (w : World) (hs : Src w A n xs) (ht : Src w B m ys) (hn : n ≤ 100000) (hm : m ≤ 100000) (hk : clampI size = k) (hlong : (m : Int) < 256 ^ k) :
   Calls Tryz.prog 58 #[.slice A n c, .int .i64 size, .slice B m d] w (VecPost w (xs ++ bytesOf m k ++ ys) true) := by
 have hbd := clampI_bd size
 obtain rfl | rfl | rfl | rfl : k = 1 ∨ k = 2 ∨ k = 3 ∨ k = 4 := by omega
 · exact rvec_yes1 A n c B m d size xs ys w hs ht hn hm hk (by simpa using hlong)
 · exact rvec_yes2 A n c B m d size xs ys w hs ht hn hm hk (by simpa using hlong)
 · exact rvec_yes3 A n c B m d size xs ys w hs ht hn hm hk (by omega)
 · exact rvec_yes4 A n c B m d size xs ys w hs ht hn hm hk (by omega)
end Go.Proofs.YthfknndjdfofgaaGreatDoor.RefBe

/-
 Contract of hagioscoperef09's lay over this seat's translation: a hello's bytes, whatever it is.
-/
namespace Go.Proofs.YthfknndjdfofgaaGreatDoor.He
open Go.RowKit Go.Proofs.YthfknndjdfofgaaGreatDoor.Wd Go.Proofs.YthfknndjdfofgaaGreatDoor.Be Go.Proofs.YthfknndjdfofgaaGreatDoor.RefBe

def vecR (k : Nat) (o x : List UInt8) : List UInt8 := if (x.length : Int) < 256 ^ k then o ++ vecB k x else o
theorem vecR_len (k : Nat) (o x : List UInt8) : (vecR k o x).length ≤ o.length + k + x.length := by
 unfold vecR
 split
 · rw [List.length_append, vecB_len]; omega
 · omega
def extR (o : List UInt8) (x : Int × List UInt8) : List UInt8 := vecR 2 (o ++ two x.1) x.2
def headR (h : Hel) : List UInt8 := vecR 1 (vecR 2 (vecR 1 (two h.ver ++ h.rnd) h.ses) (numsB h.cph)) h.met
def layR (h : Hel) : List UInt8 := if h.has = true then vecR 2 (headR h) (h.exts.foldl extR []) else headR h
def xlen (l : List (Int × List UInt8)) : Nat := (l.map fun x => 4 + x.2.length).sum
theorem extR_len : ∀ (l : List (Int × List UInt8)) (o : List UInt8), (l.foldl extR o).length ≤ o.length + xlen l
 | [], o => by simp [xlen]
 | x :: l, o => by
   rw [List.foldl_cons]
   have h1 := extR_len l (extR o x)
   have h2 := vecR_len 2 (o ++ two x.1) x.2
   rw [List.length_append, two_len] at h2
   have e : xlen (x :: l) = 4 + x.2.length + xlen l := by simp [xlen]
   have e2 : (extR o x).length = (vecR 2 (o ++ two x.1) x.2).length := rfl
   omega
theorem extsR_is : ∀ (l : List (Int × List UInt8)) (o : List UInt8), (∀ x ∈ l, InX x) → l.foldl extR o = o ++ extsB l
 | [], o, _ => by simp [extsB]
 | x :: l, o, h => by
   rw [List.foldl_cons, extsR_is l _ (fun y hy => h y (List.mem_cons_of_mem _ hy)), extsB_cons]
   have h2 := (h x (by simp)).2
   unfold extR vecR
   rw [if_pos (by rw [pow2]; omega)]
   simp
theorem layR_is {h : Hel} (r : Right h) (hr : h.rnd.length = 32) : layR h = layS h := by
 obtain ⟨hw, _, _, _, h1, h2, h3, h4⟩ := (right_iff hr).1 r
 have hs := (wrong_ok.1 hw).2.1
 have e : headR h = headB h := by
   unfold headR headB vecR
   rw [if_pos (by rw [pow1]; omega), if_pos (by rw [pow2, numsB_len]; omega), if_pos (by rw [pow1]; omega)]
   simp
 unfold layR layS tailB
 rw [e]
 split
 · rw [extsR_is _ _ h3, List.nil_append]
   unfold vecR
   rw [if_pos (by rw [pow2]; omega)]
 · rw [List.append_nil]
theorem lay_told {h : Hel} (hr : h.rnd.length = 32) : ((parseS (layR h)).2 = 0 ∧ (parseS (layR h)).1 = h) ↔ Right h := by
 constructor
 · rintro ⟨h1, h2⟩
   have := (lay_parse h1).1
   rwa [h2] at this
 · intro r
   rw [layR_is r hr, parse_lay r]
   exact ⟨rfl, rfl⟩

structure Ly (w : World) (A : Option Addr) (m cap : Nat) (xs : List UInt8) : Prop where
 len : m = xs.length
 nc : m ≤ cap
 cap : cap ≤ 9223372036854775807
 src : Src w A m xs
theorem Ly.below {w w' : World} {A : Option Addr} {n c : Nat} {xs : List UInt8} (h : Ly w A n c xs) (hb : Below w.heap.size w w') : Ly w' A n c xs := ⟨h.len, h.nc, h.cap, h.src.below hb⟩
theorem Ly.nil (w : World) : Ly w none 0 0 [] := ⟨rfl, Nat.le_refl _, Nat.zero_le _, Src.nil w⟩
theorem Ly.of_own {w : World} {B : Nat} {v : Value} {xs : List UInt8} (h : Own w B v xs) : ∃ A n c, v = .slice A n c ∧ Ly w A n c xs := by
 obtain ⟨A, c, rfl, h1, h2⟩ := h.src
 refine ⟨A, _, c, rfl, rfl, h1, ?_, h2⟩
 obtain ⟨_, ⟨e, _⟩ | ⟨g, cap, cur, e, _, _, _, hm, _⟩⟩ := h
 · injection e with _ _ e; omega
 · injection e with _ _ e; unfold maxLen at hm; omega
def RVecPost (w : World) (xs : List UInt8) (e : Ending) (w' : World) : Prop :=
 ∃ A n c ok, e = .returned (.tuple #[.slice A n c, .bool ok]) ∧ Ly w' A n c xs ∧ Below w.heap.size w w'
theorem rvecR_any (A : Option Addr) (n c k : Nat) (B : Option Addr) (m d : Nat) (size : Int) (xs ys : List UInt8) (w : World) (hs : Src w A n xs) (ht : Src w B m ys) (hn : n ≤ 100000) (hm : m ≤ 100000) (hk : clampI size = k) :
   Calls Tryz.prog 58 #[.slice A n c, .int .i64 size, .slice B m d] w (RVecPost w (vecR k xs ys)) := by
 by_cases hl : (m : Int) < 256 ^ k
 · refine (rvec_yes A n c k B m d size xs ys w hs ht hn hm hk hl).mono ?_
   rintro e w' ⟨v, rfl, ho, hb⟩
   have e : xs ++ bytesOf (m : Int) k ++ ys = vecR k xs ys := by
     unfold vecR vecB
     rw [if_pos (by rw [ht.1]; exact hl), ht.1, List.append_assoc]
   rw [e] at ho
   obtain ⟨A', n', c', rfl, h⟩ := Ly.of_own ho
   exact ⟨A', n', c', _, rfl, h, hb⟩
 · refine (rvec_no A n c k B m d size xs w hs hn hm hk hl).mono ?_
   rintro e w' ⟨v, rfl, ho, hb⟩
   have e : xs = vecR k xs ys := by
     unfold vecR
     rw [if_neg (by rw [ht.1]; exact hl)]
   rw [e] at ho
   obtain ⟨A', n', c', rfl, h⟩ := Ly.of_own ho
   exact ⟨A', n', c', _, rfl, h, hb⟩
theorem clamp2 : clampI 2 = ((2 : Nat) : Int) := by decide
theorem clamp1 : clampI 1 = ((1 : Nat) : Int) := by decide
def RPutPost (w : World) (xs : List UInt8) (e : Ending) (w' : World) : Prop :=
 ∃ A n c, e = .returned (.slice A n c) ∧ Ly w' A n c xs ∧ Below w.heap.size w w'
theorem rputR_any (A : Option Addr) (n c : Nat) (m : Int) (xs : List UInt8) (w : World) (hs : Src w A n xs) (hn : n ≤ 100000) :
   Calls Tryz.prog 100 #[.slice A n c, .int .i64 m, .int .i64 2] w (RPutPost w (xs ++ two m)) := by
 refine (rput_any A n c 2 m 2 xs w hs hn clamp2).mono ?_
 rintro e w' ⟨v, rfl, ho, hb⟩
 have ho' : Own w' w.heap.size v (xs ++ two m) := ho
 obtain ⟨A', n', c', rfl, h⟩ := Ly.of_own ho'
 exact ⟨A', n', c', rfl, h, hb⟩
theorem numsB_snoc {l : List Int} {k : Nat} {x : Int} (h : l[k]? = some x) : numsB (l.take (k + 1)) = numsB (l.take k) ++ two x := by
 rw [List.take_add_one, h]
 simp [numsB]
theorem fold_snoc {l : List Xt} {k : Nat} {x : Xt} (h : l[k]? = some x) : ((l.take (k + 1)).map ext).foldl extR [] = extR (((l.take k).map ext).foldl extR []) (ext x) := by
 have e : (l.take (k + 1)).map ext = (l.take k).map ext ++ [ext x] := by
   rw [List.take_add_one, h]
   exact List.map_append
 rw [e, List.foldl_append, List.foldl_cons, List.foldl_nil]
theorem xlen_take (l : List Xt) (k : Nat) (hx : ∀ x ∈ l, x.n = x.b.length) : xlen ((l.take k).map ext) ≤ xsum l := by
 refine Nat.le_trans ?_ (xsum_take l k)
 unfold xlen xsum
 rw [List.map_map]
 have : ∀ m : List Xt, (∀ x ∈ m, x.n = x.b.length) → (m.map ((fun x : Int × List UInt8 => 4 + x.2.length) ∘ ext)).sum ≤ (m.map fun x => 4 + x.n).sum := fun m hm => by
   induction m with
   | nil => simp
   | cons y m ih =>
     have h1 := ih (fun z hz => hm z (by simp [hz]))
     have h2 := hm y (by simp)
     simp only [List.map_cons, List.sum_cons, Function.comp_apply, ext] at h1 ⊢
     omega
 exact this _ (fun x h => hx x (List.mem_of_mem_take h))

def LayPost (h : Hel) (w : World) (e : Ending) (w' : World) : Prop :=
 ∃ A n c, e = .returned (.slice A n c) ∧ Ly w' A n c (layR h) ∧ n ≤ 30000 ∧ Below w.heap.size w w'
theorem infB : (Tryz.prog.info? 5).map (fun i => (i.zero, i.size, i.bytes)) = some (some (.int .u8 0), 1, 1) := by kernel_rfl
structure LaAt (w : World) (H : Hv) (g : Nat) (A : Option Addr) (m cap : Nat) (xs : List UInt8) (wr : World) : Prop where
 ly : Ly wr A m cap xs
 blk : Blk wr g 68 H.C
 bel : Below w.heap.size w wr
theorem LaAt.more {w wr w' : World} {H : Hv} {g : Nat} {A B : Option Addr} {n c m d : Nat} {xs ys : List UInt8} (h : LaAt w H g A n c xs wr) (hb : Below wr.heap.size wr w') (hy : Ly w' B m d ys) : LaAt w H g B m d ys w' :=
 ⟨hy, h.blk.below hb h.blk.lt, h.bel.trans (hb.mono h.bel.size)⟩

set_option maxRecDepth 100000 in
set_option maxHeartbeats 2000000 in
theorem rlay_any (H : Hv) (w : World) (hH : H.Ok w) (hw : weigh H ≤ 5000) (h60 : H.xs.length ≤ 60) :
   Calls Tryz.prog 59 #[.agg H.C] w (LayPost H.hel w) := by
 have HH := Lib.hid hH
 have hr := hH.rnd
 have HXn := Lib.hid (show ∀ x ∈ H.xs, x.n = x.b.length from fun x hx => by
   obtain ⟨i, hi⟩ := List.mem_iff_getElem?.1 hx
   exact ((hH.xs i x hi).1.src.1).symm)
 have hx2 := xlen_take H.xs H.xs.length HXn.out
 rw [List.take_length] at hx2
 unfold weigh at hw
 have hses : H.ses.length ≤ 5000 := by omega
 have hcph : H.cph.length ≤ 2500 := by omega
 have hmet : H.met.length ≤ 5000 := by omega
 have hxs : xsum H.xs ≤ 5000 := by omega
 have HXs := Lib.hid hxs
 clear hH hw hx2 hxs
 have L2 := Lib.hid (vecR_len 1 (two H.ver ++ H.rnd) H.ses)
 have L3 := Lib.hid (vecR_len 2 (vecR 1 (two H.ver ++ H.rnd) H.ses) (numsB H.cph))
 have L4 := Lib.hid (vecR_len 1 (vecR 2 (vecR 1 (two H.ver ++ H.rnd) H.ses) (numsB H.cph)) H.met)
 go_enter Tryz.func59, Tryz.ntmps59
 go_upto_region 1 with fail
 have HK := Lib.hid (Blk.new w 68 H.C)
 have HB := Lib.hid ((Below.refl w.heap.size w).alloc (Nat.le_refl _) (.cells H.C 68))
 generalize w.alloc (.cells H.C 68) = w1 at *
 obtain ⟨g, hg⟩ : ∃ g, g = w.heap.size := ⟨_, rfl⟩
 rw [← hg]
 rw [← hg] at HK
 clear hg
 have c0 := cell_ver HK.out
 go_wp2_with fail
 refine (rput_any none 0 0 2 H.ver 2 [] w1 (Src.nil _) (by omega) clamp2).mono ?_
 rintro e w2 ⟨v2, rfl, ho2, hb⟩
 have HO2 := Lib.hid (show Own w2 w1.heap.size v2 (two H.ver) from ho2)
 have hgB := HK.out.lt
 replace HK := Lib.hid (HK.out.below hb HK.out.lt)
 have hB := HB.out.size
 replace HB := Lib.hid (HB.out.trans (hb.mono HB.out.size))
 have HR := Lib.hid (src_rnd HK.out hr)
 have hsz := hb.size
 clear c0 hb ho2
 generalize w1.heap.size = B at *
 clear w1
 -- Random
 have hrl := hr
 go_wp2_with (at_builtin; refine Hid.out ?_)
 refine Lib.hid ?_
 refine wpList_app rfl (.tmp 11) (.tmp 13) 22 rfl und8 infB B v2 (two H.ver) rfl HO2.out (some ⟨g, 1, none⟩) 32 32 H.rnd rfl HR.out (by rw [two_len]; omega) hsz ?_
 intro v3 w3 HO3 hb3
 have HB3 := Lib.hid (HB.out.trans (hb3.mono hB))
 have HK3 := Lib.hid (HK.out.below hb3 hgB)
 obtain ⟨A3, n3, d3, rfl, hl3⟩ := Ly.of_own HO3.out
 have LA := Lib.hid (LaAt.mk hl3 HK3.out HB3.out)
 clear hb3 hl3 HO3 HB3 HK3 HO2 HK HB HR hsz hB hrl hgB
 have hn3 : n3 ≤ 34 := by rw [LA.out.ly.len, List.length_append, two_len, hr]; omega
 -- Session
 have cs := cell_ses LA.out.blk hr
 go_wp2_with fail
 refine (rvecR_any A3 n3 d3 1 H.sA H.ses.length H.sc 1 _ H.ses w3 LA.out.ly.src (HH.out.below LA.out.bel).ses (by omega) (by omega) clamp1).mono ?_
 rintro e w4 ⟨A4, n4, d4, ok4, rfl, hl4, hb⟩
 have LA4 := Lib.hid (LA.out.more hb hl4)
 have hn4 : n4 ≤ 5035 := by have := L2.out; rw [List.length_append, two_len, hr] at this; rw [hl4.len]; omega
 clear cs hl4 hb LA hn3 w3
 obtain ⟨o4, ho4⟩ : ∃ o4, vecR 1 (two H.ver ++ H.rnd) H.ses = o4 := ⟨_, rfl⟩
 have HO4 := Lib.hid ho4
 rw [ho4] at LA4 L3 L4
 clear ho4
 -- Ciphers
 obtain ⟨nc, hnc⟩ : ∃ nc, nc = H.cph.length := ⟨_, rfl⟩
 have HNc := Lib.hid hnc
 rw [← hnc] at hcph
 clear hnc
 go_wp2_with fail
 go_loopw [4, 5] (fun v i wr => ∃ k A m c, k ≤ nc ∧ v = .slice A m c ∧ i = .int .i64 (k : Int) ∧ Hid (LaAt w H g A m c (numsB (H.cph.take k)) wr) ∧ Hid (Ly wr A4 n4 d4 o4)) (fun _ i _ => nc - (intOf i).toNat)
 case atStart => exact ⟨0, none, 0, 0, Nat.zero_le _, rfl, rfl, Lib.hid ⟨Ly.nil _, LA4.out.blk, LA4.out.bel⟩, Lib.hid LA4.out.ly⟩
 case round =>
   clear LA4
   obtain ⟨k, A5, m5, c5, hk, rfl, rfl, LA, LY⟩ := hrel
   have cc := cell_cph LA.out.blk hr
   rw [← HNc.out] at cc
   have hm5 : m5 ≤ 5000 := by rw [LA.out.ly.len, numsB_len, List.length_take]; omega
   by_cases hlt : k < nc
   · have hki : (k : Int) < (nc : Int) := by omega
     obtain ⟨x, hx⟩ : ∃ x, H.cph[k]? = some x := ⟨_, List.getElem?_eq_getElem (by have := HNc.out; omega)⟩
     obtain ⟨gx, ox, hA, hgx, h0⟩ := HH.out.cph k x hx
     rw [hA] at cc
     have h0' := (LA.out.bel.cell (p := ⟨gx, _, none⟩) hgx).trans h0
     have HX := Lib.hid (numsB_snoc hx)
     clear h0 hA hgx hx
     go_wp2_with fail
     refine (rputR_any A5 m5 c5 x (numsB (H.cph.take k)) wr LA.out.ly.src (by omega)).mono ?_
     rintro e w6 ⟨A6, n6, d6, rfl, hl6, hb⟩
     rw [← HX.out] at hl6
     have LA6 := Lib.hid (LA.out.more hb hl6)
     have LY6 := Lib.hid (LY.out.below hb)
     clear hl6 hb LA LY cc h0' HX
     go_wp2_with fail
     go_roundw
     case rel => exact ⟨k + 1, A6, n6, d6, by omega, rfl, by go_num, LA6, LY6⟩
     case measure => simp [intOf]; omega
   · obtain rfl : k = nc := by omega
     have LA0 := LA
     have hT : H.cph.take k = H.cph := by rw [HNc.out]; exact List.take_length
     rw [hT] at LA
     clear LA0 hT
     go_wp2_with fail
     refine (rvecR_any A4 n4 d4 2 A5 m5 c5 2 _ (numsB H.cph) wr LY.out.src LA.out.ly.src (by omega) (by omega) clamp2).mono ?_
     rintro e w7 ⟨A7, n7, d7, ok7, rfl, hl7, hb⟩
     have LA7 := Lib.hid (LA.out.more hb hl7)
     have hn7 : n7 ≤ 10040 := by have := L3.out; have h4 := LY.out.len; have h5 := LA.out.ly.len; rw [hl7.len]; omega
     clear cc hl7 hb LA LY hm5 hn4
     obtain ⟨o7, ho7⟩ : ∃ o7, vecR 2 o4 (numsB H.cph) = o7 := ⟨_, rfl⟩
     have HO7 := Lib.hid ho7
     rw [ho7] at LA7 L4
     clear ho7
     -- Methods
     have cm := cell_met LA7.out.blk hr
     go_wp2_with fail
     refine (rvecR_any A7 n7 d7 1 H.mA H.met.length H.mc 1 _ H.met w7 LA7.out.ly.src (HH.out.below LA7.out.bel).met (by omega) (by omega) clamp1).mono ?_
     rintro e w8 ⟨A8, n8, d8, ok8, rfl, hl8, hb⟩
     have LA8 := Lib.hid (LA7.out.more hb hl8)
     have hn8 : n8 ≤ 15041 := by have := L4.out; have h4 := LA7.out.ly.len; rw [hl8.len]; omega
     have HHd := Lib.hid (show headR H.hel = vecR 1 o7 H.met by rw [← HO7.out, ← HO4.out]; rfl)
     clear cm hl8 hb LA7 hn7
     generalize vecR 1 o7 H.met = o8 at *
     have ch := cell_has LA8.out.blk hr
     cases hhas : H.has with
     | false =>
       rw [hhas] at ch
       have HF := Lib.hid (show layR H.hel = o8 by unfold layR; rw [if_neg (by show ¬ H.has = true; rw [hhas]; simp), HHd.out])
       go_wp2_with fail
       go_ret
       exact ⟨A8, n8, d8, rfl, by rw [HF.out]; exact LA8.out.ly, by omega, LA8.out.bel⟩
     | true =>
       rw [hhas] at ch
       have HF := Lib.hid (show layR H.hel = vecR 2 o8 (H.hel.exts.foldl extR []) by unfold layR; rw [if_pos (show H.hel.has = true from hhas), HHd.out])
       clear hhas HHd
       obtain ⟨nx, hnx⟩ : ∃ nx, nx = H.xs.length := ⟨_, rfl⟩
       have HNx := Lib.hid hnx
       rw [← hnx] at h60
       clear hnx
       go_wp2_with fail
       clear ch
       go_loopw [6, 7] (fun v i wr => ∃ k A m c, k ≤ nx ∧ v = .slice A m c ∧ i = .int .i64 (k : Int) ∧ Hid (LaAt w H g A m c (((H.xs.take k).map ext).foldl extR []) wr) ∧ Hid (Ly wr A8 n8 d8 o8)) (fun _ i _ => nx - (intOf i).toNat)
       case atStart => exact ⟨0, none, 0, 0, Nat.zero_le _, rfl, rfl, Lib.hid ⟨Ly.nil _, LA8.out.blk, LA8.out.bel⟩, Lib.hid LA8.out.ly⟩
       case round =>
         clear LA8
         obtain ⟨k, A5, m5, c5, hk, rfl, rfl, LA, LY⟩ := hrel
         have cx := cell_xs LA.out.blk hr
         rw [← HNx.out] at cx
         have hm5 : m5 ≤ 5000 := by
           have h1 := extR_len ((H.xs.take k).map ext) []
           have h2 := xlen_take H.xs k HXn.out
           have h3 := HXs.out
           rw [LA.out.ly.len]
           rw [List.length_nil] at h1
           omega
         by_cases hlt : k < nx
         · have hki : (k : Int) < (nx : Int) := by omega
           obtain ⟨x, hx⟩ : ∃ x, H.xs[k]? = some x := ⟨_, List.getElem?_eq_getElem (by have := HNx.out; omega)⟩
           obtain ⟨hok, gx, ox, hA, hgx, h0, h1⟩ := HH.out.xs k x hx
           rw [hA] at cx
           have h0' := (LA.out.bel.cell (p := ⟨gx, _, none⟩) hgx).trans h0
           have H1' := Lib.hid ((LA.out.bel.cell (p := ⟨gx, _, none⟩) hgx).trans h1)
           have HX := Lib.hid (fold_snoc hx)
           have HSx := Lib.hid (hok.src.below LA.out.bel)
           have hxn : x.n ≤ 5000 := by
             have h1 := xsum_snoc hx
             have h2 := xsum_take H.xs (k + 1)
             have h3 := HXs.out
             omega
           have hgl : gx < wr.heap.size := Nat.lt_of_lt_of_le hgx LA.out.bel.size
           have HA := Lib.hid hA
           clear h0 h1 hgx hx hok hA
           go_wp2_with fail
           refine (rputR_any A5 m5 c5 x.kind (((H.xs.take k).map ext).foldl extR []) wr LA.out.ly.src (by omega)).mono ?_
           rintro e w6 ⟨A6, n6, d6, rfl, hl6, hb⟩
           have hn6 : n6 ≤ 5002 := by rw [hl6.len, List.length_append, two_len, ← LA.out.ly.len]; omega
           have LA6 := Lib.hid (LA.out.more hb hl6)
           have LY6 := Lib.hid (LY.out.below hb)
           have HSx6 := Lib.hid (HSx.out.below hb)
           have h1' := (hb.cell (p := ⟨gx, _, none⟩) hgl).trans H1'.out
           have cx6 := cell_xs LA6.out.blk hr
           rw [← HNx.out, HA.out] at cx6
           clear hl6 hb LA LY cx h0' H1' HSx hgl
           go_wp2_with fail
           refine (rvecR_any A6 n6 d6 2 x.A x.n x.c 2 _ x.b w6 LA6.out.ly.src HSx6.out (by omega) (by omega) clamp2).mono ?_
           rintro e w9 ⟨A9, n9, d9, ok9, rfl, hl9, hb⟩
           have e9 : vecR 2 (((H.xs.take k).map ext).foldl extR [] ++ two x.kind) x.b = ((H.xs.take (k + 1)).map ext).foldl extR [] := by rw [HX.out]; rfl
           rw [e9] at hl9
           have LA9 := Lib.hid (LA6.out.more hb hl9)
           have LY9 := Lib.hid (LY6.out.below hb)
           clear hl9 hb LA6 LY6 cx6 h1' HSx6 e9 HX
           go_wp2_with fail
           go_roundw
           case rel => exact ⟨k + 1, A9, n9, d9, by omega, rfl, by go_num, LA9, LY9⟩
           case measure => simp [intOf]; omega
         · obtain rfl : k = nx := by omega
           have hT : (H.xs.take k).map ext = H.hel.exts := by rw [HNx.out, List.take_length]; rfl
           rw [hT] at LA
           clear hT
           go_wp2_with fail
           refine (rvecR_any A8 n8 d8 2 A5 m5 c5 2 _ (H.hel.exts.foldl extR []) wr LY.out.src LA.out.ly.src (by omega) (by omega) clamp2).mono ?_
           rintro e w9 ⟨A9, n9, d9, ok9, rfl, hl9, hb⟩
           have hn9 : n9 ≤ 20048 := by have h1 := vecR_len 2 o8 (H.hel.exts.foldl extR []); have h4 := LY.out.len; have h5 := LA.out.ly.len; rw [hl9.len]; omega
           rw [← HF.out] at hl9
           have LA9 := Lib.hid (LA.out.more hb hl9)
           clear hl9 hb LA LY cx
           go_wp2_with fail
           go_ret
           exact ⟨A9, n9, d9, rfl, LA9.out.ly, by omega, LA9.out.bel⟩
end Go.Proofs.YthfknndjdfofgaaGreatDoor.He

/-
 Contracts of hagioscoperef09's Parse and Print over this seat's translation.
-/
namespace Go.Proofs.YthfknndjdfofgaaGreatDoor.He
open Go.RowKit Go.Proofs.YthfknndjdfofgaaGreatDoor.Wd Go.Proofs.YthfknndjdfofgaaGreatDoor.Be

def RParsePost (xs : List UInt8) (w : World) (e : Ending) (w' : World) : Prop :=
 ∃ H, e = .returned (.tuple #[.agg H.C, .int .i64 (parseS xs).2]) ∧ HOwq w' H ∧ H.hel = (parseS xs).1 ∧ Below w.heap.size w w'
theorem zero_rowq {w : World} {g : Nat} {H : Hv} (h : HOwq w H) {t : TypeId} {cs : Array Value} (hb : Blk w g t cs) (ht : ¬ TW t) (C : Array Value) : HOwq (w.setRow g C) H := h.off (only_row _ _ _) (OffT.of_blk hb ht)

set_option maxRecDepth 100000 in
set_option maxHeartbeats 1000000 in
theorem rparse_any (A : Option Addr) (n c : Nat) (xs : List UInt8) (w : World) (hs : Src w A n xs) (hn : n ≤ 100000) (hnc : n ≤ c) (hc : c ≤ 9223372036854775807) :
   Calls Tryz.prog 48 #[.slice A n c] w (RParsePost xs w) := by
 have HS := Lib.hid hs
 clear hs
 go_enter Tryz.func48, Tryz.ntmps48
 go_wp2_with fail
 refine (rlaid_any A n c xs _ (HS.out.alloc _) hn hnc hc).mono ?_
 rintro e w1 ⟨H, rfl, hown, hh1, hh2, hb⟩
 rw [← zeroC] at hb
 have hr1 : Blk w1 w.heap.size 68 Hv.zero.C := Blk.below (Blk.new _ _ _) hb (by simp)
 have hb1 : Below w.heap.size w w1 := ((Below.refl _ _).alloc (Nat.le_refl _) _).trans (hb.mono (by simp))
 have hlt := hr1.lt
 have HB1 := Lib.hid hb1
 have HR1 := Lib.hid hr1
 have HO1 := Lib.hid hown
 have HH1 := Lib.hid hh1
 have hsz := Hv.size hown.rnd
 clear hb hb1 hr1 hown hh1 hh2 hnc hc hn
 go_upto_region 2 with (refine go_st 68 (Blk.new _ _ _) infH rfl hsz (Hv.one _) rfl rfl rfl rfl ?_)
 rw [← zeroC]
 have HK := Lib.hid (setRow_blk (new := H.C) (Blk.new w1 68 Hv.zero.C))
 have HR2 := Lib.hid (Blk.row_far (HR1.out.alloc (.cells Hv.zero.C 68)) (g' := w1.heap.size) (by omega) H.C)
 have HB2 := Lib.hid (setRow_below (HB1.out.alloc (by omega) (.cells Hv.zero.C 68)) (g := w1.heap.size) (by omega) H.C)
 have HO2 := Lib.hid (zero_rowq (HO1.out.below ((Below.refl _ _).alloc (Nat.le_refl _) (.cells Hv.zero.C 68))) (Blk.new w1 68 Hv.zero.C) (by unfold TW; decide) H.C)
 have hne : w.heap.size ≠ w1.heap.size := by omega
 have hle : w.heap.size ≤ w1.heap.size := by omega
 generalize (w1.alloc (.cells Hv.zero.C 68)).setRow w1.heap.size H.C = w2 at *
 generalize w1.heap.size = g at *
 clear HO1 HR1 HB1 hlt
 have hg2 := HK.out.lt
 cases hok : okS xs with
 | false =>
   have HP := Lib.hid (parse_form hok)
   go_wp2_with (first
     | (refine go_bd0 68 _ builtH rfl rfl ?_)
     | (refine go_st 68 HR2.out infH (Hv.size rfl) (Hv.size rfl) (Hv.one _) rfl rfl rfl rfl ?_))
   exact ret_two Tryz.results48 (setRow_blk HR2.out) undH rfl infH (Hv.size rfl) rfl rfl ⟨Hv.zero, by rw [HP.out]; rfl, HOwq.zero _, by rw [HP.out]; rfl, setRow_below HB2.out (Nat.le_refl _) _⟩ rfl
 | true =>
   have HH := Lib.hid (HH1.out hok)
   go_wp2_with (refine go_ld (x := .tmp 4) 68 HK.out undH rfl infH hsz rfl rfl rfl ?_)
   refine (rwrong_any H w2 HO2.out.ok).mono ?_
   rintro e w3 ⟨rfl, hb3⟩
   have hwr : wrongS H.hel = wrongS (helS xs) := by rw [HH.out]
   have HK3 := Lib.hid (HK.out.below hb3 hg2)
   have HR3 := Lib.hid (HR2.out.below hb3 HR2.out.lt)
   have HO3 := Lib.hid (HO2.out.below hb3)
   have HB3 := Lib.hid (HB2.out.trans (hb3.mono HB2.out.size))
   rw [hwr]
   clear hwr hb3 HK HR2 HO2 HB2
   by_cases hz : wrongS (helS xs) = 0
   · have HP := Lib.hid (parse_is hok hz)
     rw [hz]
     clear hz
     go_wp2_with (first
       | (refine go_ld (x := .tmp 4) 68 HK3.out undH rfl infH hsz rfl rfl rfl ?_)
       | (refine go_st 68 HR3.out infH (Hv.size rfl) hsz (Hv.one _) rfl rfl rfl rfl ?_))
     exact ret_two Tryz.results48 (setRow_blk HR3.out) undH rfl infH hsz rfl rfl ⟨H, by rw [HP.out]; rfl, zero_rowq HO3.out HR3.out (by unfold TW; decide) _, by rw [HP.out]; exact HH.out, setRow_below HB3.out (Nat.le_refl _) _⟩ rfl
   · have HP := Lib.hid (show parseS xs = (Hel.zero, wrongS (helS xs)) by rw [parseS, if_pos hok, if_neg hz])
     generalize wrongS (helS xs) = e at *
     have hz' : (e == (0 : Int)) = false := by simpa using hz
     have hz2 : (e != (0 : Int)) = true := by simpa using hz
     go_wp2_with (first
       | (refine go_bd0 68 _ builtH rfl rfl ?_)
       | (refine go_st 68 HR3.out infH (Hv.size rfl) (Hv.size rfl) (Hv.one _) rfl rfl rfl rfl ?_))
     exact ret_two Tryz.results48 (setRow_blk HR3.out) undH rfl infH (Hv.size rfl) rfl rfl ⟨Hv.zero, by rw [HP.out]; rfl, HOwq.zero _, by rw [HP.out]; rfl, setRow_below HB3.out (Nat.le_refl _) _⟩ rfl

theorem laidq_new {w : World} {H : Hv} (h : HOwq w H) : HAq ((w.alloc (.cells Hv.zero.C 68)).setRow w.heap.size H.C) w.heap.size H ∧ Below w.heap.size w ((w.alloc (.cells Hv.zero.C 68)).setRow w.heap.size H.C) :=
 ⟨⟨setRow_blk (Blk.new w 68 Hv.zero.C), zero_rowq (h.below ((Below.refl _ _).alloc (Nat.le_refl _) (.cells Hv.zero.C 68))) (Blk.new w 68 Hv.zero.C) (by unfold TW; decide) H.C⟩,
   setRow_below ((Below.refl _ _).alloc (Nat.le_refl _) _) (Nat.le_refl _) _⟩
open Classical in
noncomputable def printS (h : Hel) : List UInt8 × Bool := if Right h then (layS h, true) else ([], false)
theorem print_right {h : Hel} (_ : h.rnd.length = 32) : ((printS h).2 = true ↔ Right h) ∧ (Right h → printS h = (layS h, true)) ∧ (¬ Right h → printS h = ([], false)) := by
 unfold printS
 by_cases hr : Right h
 · rw [if_pos hr]; exact ⟨⟨fun _ => hr, fun _ => rfl⟩, fun _ => rfl, fun h => absurd hr h⟩
 · rw [if_neg hr]; exact ⟨⟨(fun h => by cases h), fun h => absurd h hr⟩, fun h => absurd h hr, fun _ => rfl⟩
def RPrintPost (h : Hel) (w : World) (e : Ending) (w' : World) : Prop :=
 ∃ A n c, e = .returned (.tuple #[.slice A n c, .bool (printS h).2]) ∧ Src w' A n (printS h).1 ∧ Below w.heap.size w w'

set_option maxRecDepth 100000 in
set_option maxHeartbeats 2000000 in
theorem rprint_any (H : Hv) (w : World) (hH : H.Ok w) (hw : weigh H ≤ 5000) (h60 : H.xs.length ≤ 60) :
   Calls Tryz.prog 34 #[.agg H.C] w (RPrintPost H.hel w) := by
 have HH := Lib.hid hH
 have hr := hH.rnd
 clear hH
 go_enter Tryz.func34, Tryz.ntmps34
 go_upto_region 1 with fail
 have HK := Lib.hid (Blk.new w 68 H.C)
 have HB := Lib.hid ((Below.refl w.heap.size w).alloc (Nat.le_refl _) (.cells H.C 68))
 generalize w.alloc (.cells H.C 68) = w1 at *
 obtain ⟨g, hg⟩ : ∃ g, g = w.heap.size := ⟨_, rfl⟩
 rw [← hg]
 rw [← hg] at HK
 clear hg
 go_wp2_with (refine go_ld (x := .tmp 1) 68 HK.out undH rfl infH (Hv.size hr) rfl rfl rfl ?_)
 refine (rlay_any H w1 (HH.out.below HB.out) hw h60).mono ?_
 rintro e w2 ⟨A2, n2, d2, rfl, hl2, hn2, hb⟩
 replace HK := Lib.hid (HK.out.below hb HK.out.lt)
 replace HB := Lib.hid (HB.out.trans (hb.mono HB.out.size))
 have HL2 := Lib.hid hl2
 clear hb hl2 w1 hw h60
 go_wp2_with fail
 refine (rparse_any A2 n2 d2 (layR H.hel) w2 HL2.out.src (by omega) HL2.out.nc HL2.out.cap).mono ?_
 rintro e w3 ⟨H5, rfl, ho, hh, hb⟩
 replace HK := Lib.hid (HK.out.below hb HK.out.lt)
 replace HB := Lib.hid (HB.out.trans (hb.mono HB.out.size))
 have HL3 := Lib.hid (HL2.out.below hb)
 have HO5 := Lib.hid ho
 have HE5 := Lib.hid hh
 have hr5 := ho.rnd
 clear hb ho hh HL2
 obtain ⟨z, hz⟩ : ∃ z, z = (parseS (layR H.hel)).2 := ⟨_, rfl⟩
 rw [← hz]
 have HZ := Lib.hid hz
 clear hz
 go_upto_region 3 with (refine go_st 68 (Blk.new _ _ _) infH rfl (Hv.size hr5) (Hv.one _) rfl rfl rfl rfl ?_)
 rw [← zeroC]
 obtain ⟨la, hb⟩ := laidq_new HO5.out
 replace HK := Lib.hid (HK.out.below hb HK.out.lt)
 replace HB := Lib.hid (HB.out.trans (hb.mono HB.out.size))
 have HL4 := Lib.hid (HL3.out.below hb)
 have HA5 := Lib.hid la
 clear la hb HO5 HL3
 generalize (w3.alloc (.cells Hv.zero.C 68)).setRow w3.heap.size H5.C = w4 at *
 generalize w3.heap.size = g5 at *
 clear w3 w2
 have HT := Lib.hid (lay_told (h := H.hel) hr)
 have HPr := Lib.hid (print_right (h := H.hel) hr)
 by_cases hz0 : z = 0
 · subst hz0
   by_cases hright : Right H.hel
   · have HY := Lib.hid (show H5.hel = H.hel from HE5.out.trans (HT.out.2 hright).2)
     have HP := Lib.hid (show printS H.hel = (layR H.hel, true) by rw [HPr.out.2.1 hright, layR_is hright hr])
     clear hright HT HPr HE5 HZ
     go_wp2_with (first
       | (refine go_ld (x := .tmp 5) 68 HA5.out.blk undH rfl infH (Hv.size hr5) (by rfl) rfl rfl ?_)
       | (refine go_ld (x := .tmp 1) 68 HK.out undH rfl infH (Hv.size hr) (by rfl) rfl rfl ?_)
       | (go_at_call 60; refine (same_any H5 H w4 HA5.out.own.ok (HH.out.below HB.out)).mono ?_; rintro e w5 ⟨R, rfl, hR, hb⟩; obtain rfl : R = true := hR.2 HY.out
          have HB5 := Lib.hid (HB.out.trans (hb.mono HB.out.size)); have HL5 := Lib.hid (HL4.out.below hb); clear hR hb))
     go_ret2
     exact ⟨A2, n2, d2, by rw [HP.out]; rfl, by rw [HP.out]; exact HL5.out.src, HB5.out⟩
   · have HN := Lib.hid (show ¬ H5.hel = H.hel from fun e => hright (HT.out.1 ⟨HZ.out.symm, HE5.out.symm.trans e⟩))
     have HP := Lib.hid (HPr.out.2.2 hright)
     clear hright HT HPr HE5 HZ
     go_wp2_with (first
       | (refine go_ld (x := .tmp 5) 68 HA5.out.blk undH rfl infH (Hv.size hr5) (by rfl) rfl rfl ?_)
       | (refine go_ld (x := .tmp 1) 68 HK.out undH rfl infH (Hv.size hr) (by rfl) rfl rfl ?_)
       | (go_at_call 60; refine (same_any H5 H w4 HA5.out.own.ok (HH.out.below HB.out)).mono ?_; rintro e w5 ⟨R, rfl, hR, hb⟩; obtain rfl : R = false := Bool.eq_false_iff.2 (fun h => HN.out (hR.1 h))
          have HB5 := Lib.hid (HB.out.trans (hb.mono HB.out.size)); clear hR hb))
     go_ret2
     exact ⟨none, 0, 0, by rw [HP.out]; rfl, by rw [HP.out]; exact Src.nil _, HB5.out⟩
 · have hz1 : (z != 0) = true := by simpa using hz0
   have HP := Lib.hid (HPr.out.2.2 (fun r => hz0 (HZ.out.trans (HT.out.2 r).1)))
   clear HT HPr HE5 HZ
   go_wp2_with fail
   go_ret2
   exact ⟨none, 0, 0, by rw [HP.out]; rfl, by rw [HP.out]; exact Src.nil _, HB.out⟩
end Go.Proofs.YthfknndjdfofgaaGreatDoor.He
