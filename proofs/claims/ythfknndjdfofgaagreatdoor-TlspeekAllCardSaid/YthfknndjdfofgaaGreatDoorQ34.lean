/-
 strings.IndexAny over this seat's translation, for a string of whatever bytes, and two signs of ASCII or more: the library's own contract asks for ASCII in both.
-/
import Derived.Test.YthfknndjdfofgaaGreatDoorQ33
import Derived.Laws.Runes
import Derived.WalkMore
import Derived.Lib.OthersKept
import Derived.Lib.IndexAny
import Derived.Test.YthfknndjdfofgaaGreatDoorQ11
import Derived.Test.YthfknndjdfofgaaGreatDoorQ13
import Derived.Test.YthfknndjdfofgaaGreatDoorQ10
import Derived.Test.YthfknndjdfofgaaGreatDoorQ03
import Derived.Laws.BitsAllLaws
import Derived.LoopTactic
namespace Go.Proofs.YthfknndjdfofgaaGreatDoor.Tx
open Go.RowKit Go.Proofs.YthfknndjdfofgaaGreatDoor.Wd Go.Proofs.YthfknndjdfofgaaGreatDoor.Asc Go.Lib

theorem quietR {P : Program} {f : FuncId} {args : Array Value} {w : World} {q n : Nat} {v : Value} (h : Calls P f args (w.drewN (q + n)) fun e w' => e = .returned v ∧ w' = w.drewN (q + n)) :
   Calls P f args (w.drewN (q + n)) fun e w'' => e = .returned v ∧ ∃ m, w'' = w.drewN (q + m) := h.mono fun _ _ ⟨he, hm⟩ => ⟨he, n, hm⟩
def Asci (l : List UInt8) : Prop := ∀ c ∈ l, c.toNat < 128
theorem ib_wide {l : List UInt8} (h : Asci l) {c : UInt8} (hc : 128 ≤ c.toNat) : Lib.indexByte l c = -1 := ib_free (fun hm => by have := h c hm; omega)
theorem asci_cut {s : ByteArray} (h : Asci (bs s)) (a t : Nat) : Asci (bs (s.extract a t)) := fun c hc => by
 rw [bs_extract] at hc
 exact h c (List.mem_of_mem_drop (List.mem_of_mem_take hc))

set_option maxRecDepth 100000 in
set_option maxHeartbeats 4000000 in
theorem irune_err (s : ByteArray) (hs : Asci (bs s)) (w : World) :
   Calls Tryz.prog 155 #[.string s, .int .i32 65533] w fun e w' => e = .returned (.int .i64 (-1)) ∧ Below w.heap.size w w' := by
 have HS := Lib.hid hs
 clear hs
 go_enter Tryz.func155, Tryz.ntmps155
 go_wp2
 go_loopw [5, 6] (fun _ _ w' => ∃ pos, w' = w.iter s pos ∧ pos ≤ s.size) (fun _ _ w' => s.size - w'.iterPos w.heap.size)
 case atStart => exact ⟨0, rfl, Nat.zero_le _⟩
 case round =>
   obtain ⟨pos, rfl, hle⟩ := hrel
   by_cases hp : pos < s.size
   · have ha : (s[pos]'hp).toNat < 128 := HS.out _ (by rw [← bs_get s pos hp]; exact List.getElem_mem _)
     have hnx : ∀ ty, (Instr.next (.pointer (some ⟨w.heap.size, 0, none⟩)) true ty).run Tryz.prog (w.iter s pos) = _ := fun ty => run_next_ascii (P := Tryz.prog) w s pos ty hp ha
     have hb : ((((s[pos]'hp).toNat : Nat) : Int) == 65533) = false := by rw [beq_eq_false_iff_ne]; omega
     go_wp2
     go_roundw
     case rel => exact ⟨pos + 1, rfl, hp⟩
     case measure => simp; omega
   · have hnx := fun ty => run_next_end (P := Tryz.prog) w s pos ty hp
     go_wp2
     go_ret
     exact ⟨rfl, below_iter _ _ _⟩

set_option maxRecDepth 100000 in
set_option maxHeartbeats 8000000 in
theorem irune_wide (s : ByteArray) (hs : Asci (bs s)) (r : Int) (h : 128 ≤ r) (w : World) :
   Calls Tryz.prog 155 #[.string s, .int .i32 r] w fun e w' => e = .returned (.int .i64 (-1)) ∧ Below w.heap.size w w' := by
 by_cases he : r = 65533
 · subst he; exact irune_err s hs w
 have hb1 : (r == 65533) = false := by simpa using he
 have i1 : (0 : Int) ≤ r := by omega
 have i2 : ¬ r < 128 := by omega
 cases hv : Lib.validRune r with
 | false =>
   have HV := Lib.hid hv
   clear hv
   go_enter Tryz.func155, Tryz.ntmps155
   go_wp2_with (go_at_call 190; refine (Tryz.utf8_ValidRune _ _).mono ?_; rintro e w1 ⟨rfl, hw⟩; rw [hw, HV.out])
   go_ret
   exact ⟨rfl, Below.refl _ _⟩
 | true =>
   have hv2 : Utf8.valid r = true := by rw [validRune_eq]; exact hv
   obtain ⟨f1, f2, f3⟩ := encode_facts r hv2 h
   have hcv : ∀ w', (convert 21 9 (.int .i32 r)).run Tryz.prog w' = .ok (.string (Utf8.encode r)) w' := fun w' => run_convert_int_string w' 21 9 .i32 r (by kernel_rfl) Tryz.underlying9
   generalize Utf8.encode r = R at *
   have HV := Lib.hid hv
   have HS := Lib.hid hs
   clear hv hv2 hs he
   obtain ⟨n, hn⟩ : ∃ n, R.size = n + 1 := ⟨R.size - 1, by omega⟩
   have hlt : n < R.size := by omega
   have hi : (R.size : Int) - 1 = (n : Int) := by omega
   have hR : 128 ≤ (R[n]'hlt).toNat := by
     have := f3 (by omega)
     have e : R.size - 1 = n := by omega
     simpa only [e] using this
   have hn3 : n ≤ 3 := by omega
   have HR := Lib.hid hR
   clear f1 f2 f3 hn hR
   go_enter Tryz.func155, Tryz.ntmps155
   go_wp2_with (go_at_call 190; refine (Tryz.utf8_ValidRune _ _).mono ?_; rintro e w1 ⟨rfl, hw⟩; rw [hw, HV.out])
   go_step3
   go_wp2_with fail
   go_loopw [9, 10] (fun i f w' => i = .int .i64 n ∧ f = .int .i64 0 ∧ w = w') (fun _ _ _ => 0)
   case atStart => exact ⟨rfl, rfl, rfl⟩
   case round =>
     obtain ⟨rfl, rfl, rfl⟩ := hrel
     by_cases hp : n < s.size
     · have ha : (s[n]'hp).toNat < 128 := HS.out _ (by rw [← bs_get s n hp]; exact List.getElem_mem _)
       have hne : (((s[n]'hp).toNat : Int) != ((R[n]'hlt).toNat : Int)) = true := by have := HR.out; rw [bne_iff_ne]; omega
       have HK := Lib.hid (fun a b w' => show Calls Tryz.prog 189 #[.string (s.extract a b), .int .u8 ((R[n]'hlt).toNat : Int)] w' (fun e w'' => e = .returned (.int .i64 (-1)) ∧ w'' = w') from
         (Tryz.strings_IndexByte (s.extract a b) ((R[n]'hlt).toNat : Int) w').mono fun e w'' ⟨h1, h2⟩ => ⟨by rw [h1, show Lib.indexByte (s.extract a b).data.toList ((R[n]'hlt).toNat : Int).toNat.toUInt8 = -1 from ib_wide (asci_cut HS.out a b) (by simpa using HR.out)], h2⟩)
       clear hcv
       go_wp2_with fail
       go_step3
       go_wp2_with fail
       go_quiet (fail)
       go_wp2_with fail
       have hw1 : IntKind.i64.wrap ((n : Int) + 1) = (n : Int) + 1 := IntWalk.i64_in _ (by omega)
       have hw2 : ((n : Int) + 1).toNat = n + 1 := by omega
       have hw3 : (0 : Int) ≤ (n : Int) + 1 := by omega
       have hw4 : (n : Int) + 1 ≤ (s.size : Int) := by omega
       go_quiet (first | (go_at_call 189; exact quietR (HK.out _ _ _)))
       go_wp2_with fail
       rw [Exit.noGoto_ret]
       dsimp (zetaDelta := true) only [Exit.inBlock, Exit.then, Exit.noGoto]
       go_ret
       exact ⟨rfl, below_drewN' _ _⟩
     · clear hcv
       go_wp2_with fail
       rw [Exit.noGoto_ret]
       go_ret
       exact ⟨rfl, Below.refl _ _⟩

end Go.Proofs.YthfknndjdfofgaaGreatDoor.Tx

/-
 Where addr's contracts may be used, those over texts may, too: what the library's variables hold. Plain lemma.
-/
namespace Go.Proofs.YthfknndjdfofgaaGreatDoor.Au
open Go.RowKit

end Go.Proofs.YthfknndjdfofgaaGreatDoor.Au

/-
 Contracts of package addr's parseGroups and Parse over this seat's translation.
-/
namespace Go.Proofs.YthfknndjdfofgaaGreatDoor.Ad
open Go.RowKit Go.Proofs.YthfknndjdfofgaaGreatDoor.Wd Go.Proofs.YthfknndjdfofgaaGreatDoor.Asc

def AddrPost (o : Option (List UInt8)) (w : World) (e : Ending) (w' : World) : Prop :=
 e = .returned (.tuple #[.agg (cA (o.getD (List.replicate 16 0))), .bool o.isSome]) ∧ Below w.heap.size w w'

set_option maxRecDepth 100000 in
set_option maxHeartbeats 4000000 in
theorem groups_any {B : Nat} (l : List UInt8) (w : World) (hE : Env B w) (hl : l.length < 4294967281) :
   Calls Tryz.prog 62 #[.string (str l)] w (AddrPost (groupsS l) w) := by
 have HE := Lib.hid hE
 have hcl := cut_le l [58, 58]
 clear hE
 go_enter Tryz.func62, Tryz.ntmps62
 go_wp2_with fail
 have hR : Blk (w.alloc (.cells (cA (List.replicate 16 0)) 75)) w.heap.size 75 (cA (List.replicate 16 0)) := Blk.new _ _ _
 have hL : Below w.heap.size w (w.alloc (.cells (cA (List.replicate 16 0)) 75)) := (Below.refl _ _).alloc (Nat.le_refl _) _
 refine (cut_any l [58, 58] _ (HE.out.on hL) hl).mono ?_
 rintro e w1 ⟨rfl, hb1⟩
 have R1 := Lib.hid (hR.below hb1 hR.lt)
 have L1 := Lib.hid (hL.trans (hb1.mono hL.size))
 have E1 := Lib.hid (HE.out.on L1.out)
 clear hb1 hR hL HE
 have HG := Lib.hid (show groupsS l = if (Lib.cut l [58, 58]).2.2 then shortS (Lib.cut l [58, 58]).1 (Lib.cut l [58, 58]).2.1 else match sideS l true with
   | some x => if x.length < 16 then none else some x
   | none => none from rfl)
 generalize hcut : Lib.cut l [58, 58] = cu at *
 obtain ⟨p1, p2, mo⟩ := cu
 simp only at HG hcl
 clear hcut
 cases mo with
 | true =>
   have HZ := Lib.hid (HG.out.trans (if_pos rfl))
   have hlen : ((shortS p1 p2).getD (List.replicate 16 0)).length = 16 := by
     cases h : shortS p1 p2 with
     | none => rfl
     | some a => exact groupsS_len (l := l) (a := a) (by rw [HZ.out, h])
   clear HG
   go_wp2_with fail
   refine (short_any p1 p2 _ E1.out (by omega) (by omega)).mono ?_
   rintro e w2 ⟨rfl, hb2⟩
   have HV : Hid (∀ V, V = (shortS p1 p2).getD (List.replicate 16 0) → V = (groupsS l).getD (List.replicate 16 0)) := fun V h => by rw [HZ.out, h]
   generalize hV : (shortS p1 p2).getD (List.replicate 16 0) = V at *
   have HV2 := Lib.hid (HV.out V rfl)
   clear HV hV
   have R2 := Lib.hid (R1.out.below hb2 R1.out.lt)
   have L2 := Lib.hid (L1.out.trans (hb2.mono L1.out.size))
   clear hb2
   go_wp2_with (refine go_st 75 R2.out info16 rfl (by rw [cA_size, hlen]) (cA_one _) rfl rfl rfl rfl ?_)
   refine ret_two Tryz.results62 (setRow_blk R2.out) und16 rfl info16 (by rw [cA_size, hlen]) rfl rfl ?_ rfl
   exact ⟨by rw [HV2.out, HZ.out]; rfl, setRow_below L2.out R2.out (Nat.le_refl _) _⟩
 | false =>
   have HZ := Lib.hid (HG.out.trans (if_neg (by simp)))
   have hX16 : (sideC ((sideS l true).getD [])).a.length = 16 := sideC_len (by cases e : sideS l true with | none => simp | some x => exact sideS_le e)
   clear HG
   go_wp2_with fail
   refine (side_any l true _ E1.out hl).mono ?_
   rintro e w2 ⟨rfl, hb2⟩
   have R2 := R1.out.below hb2 R1.out.lt
   have L2 := L1.out.trans (hb2.mono L1.out.size)
   clear hb2
   go_upto_region 5 with (refine go_st 135 (Blk.new _ _ _) infoS rfl (C_size _ hX16) (C_one _) rfl rfl rfl rfl ?_)
   have hn : Below w2.heap.size w2 ((w2.alloc (.cells #[Value.int .u8 0, Value.int .u8 0, Value.int .u8 0, Value.int .u8 0, Value.int .u8 0, Value.int .u8 0, Value.int .u8 0, Value.int .u8 0, Value.int .u8 0, Value.int .u8 0, Value.int .u8 0, Value.int .u8 0, Value.int .u8 0, Value.int .u8 0, Value.int .u8 0, Value.int .u8 0, Value.int .i64 0] 135)).setRow w2.heap.size (sideC ((sideS l true).getD [])).cells) := new_below _ _ _ _
   have b8 := new_blk w2 135 #[Value.int .u8 0, Value.int .u8 0, Value.int .u8 0, Value.int .u8 0, Value.int .u8 0, Value.int .u8 0, Value.int .u8 0, Value.int .u8 0, Value.int .u8 0, Value.int .u8 0, Value.int .u8 0, Value.int .u8 0, Value.int .u8 0, Value.int .u8 0, Value.int .u8 0, Value.int .u8 0, Value.int .i64 0] (sideC ((sideS l true).getD [])).cells
   generalize (w2.alloc (.cells #[Value.int .u8 0, Value.int .u8 0, Value.int .u8 0, Value.int .u8 0, Value.int .u8 0, Value.int .u8 0, Value.int .u8 0, Value.int .u8 0, Value.int .u8 0, Value.int .u8 0, Value.int .u8 0, Value.int .u8 0, Value.int .u8 0, Value.int .u8 0, Value.int .u8 0, Value.int .u8 0, Value.int .i64 0] 135)).setRow w2.heap.size (sideC ((sideS l true).getD [])).cells = w3 at *
   have R3 := Lib.hid (R2.below hn R2.lt)
   have L3 := Lib.hid (L2.trans (hn.mono L2.size))
   have B8 := Lib.hid b8
   clear R2 L2 hn b8 R1 L1 E1
   cases hx : sideS l true with
   | none =>
     have HY := Lib.hid (show groupsS l = none by rw [HZ.out, hx])
     clear hx
     go_wp2_with (first
       | (refine go_bd0 75 _ built16 rfl rfl ?_)
       | (refine go_st 75 R3.out info16 rfl rfl (cA_one _) rfl rfl rfl rfl ?_))
     refine ret_two Tryz.results62 (setRow_blk R3.out) und16 rfl info16 rfl rfl rfl ?_ rfl
     exact ⟨by rw [HY.out]; rfl, setRow_below L3.out R3.out (Nat.le_refl _) _⟩
   | some x =>
     have hx16 := sideS_le hx
     have hux := C_cell16 B8.out hX16
     rw [show (sideC ((sideS l true).getD [])).n = (x.length : Int) by rw [hx]; rfl] at hux
     by_cases hbig : x.length < 16
     · have HY := Lib.hid (show groupsS l = none by rw [HZ.out, hx]; simp only [if_pos hbig])
       have hbi : (x.length : Int) < 16 := by omega
       clear hx
       go_wp2_with (first
         | (refine go_bd0 75 _ built16 rfl rfl ?_)
         | (refine go_st 75 R3.out info16 rfl rfl (cA_one _) rfl rfl rfl rfl ?_))
       refine ret_two Tryz.results62 (setRow_blk R3.out) und16 rfl info16 rfl rfl rfl ?_ rfl
       exact ⟨by rw [HY.out]; rfl, setRow_below L3.out R3.out (Nat.le_refl _) _⟩
     · have HY := Lib.hid (show groupsS l = some x by rw [HZ.out, hx]; simp only [if_neg hbig])
       have hbi : ¬ (x.length : Int) < 16 := by omega
       have BX := B8.out
       rw [show (sideS l true).getD [] = x by rw [hx]; rfl] at BX
       have hrx := range_a (rangeC BX)
       have ex : (sideC x).a = x := by
         rw [sideC, show 16 - x.length = 0 by omega]; simp
       rw [ex] at hrx
       have h16 : x.length = 16 := by omega
       clear hx
       go_wp2_with (first
         | (refine wpList_load_mid rfl 75 _ rfl w2.heap.size 0 rfl (cellsOf x) _ hrx und16 rfl (by rw [cellsOf_length, h16]; exact info16) ?_)
         | (refine go_st 75 R3.out info16 rfl (by rw [cA_size, h16]) (cA_one x) rfl rfl rfl rfl ?_))
       refine ret_two Tryz.results62 (setRow_blk R3.out) und16 rfl info16 (by rw [cA_size, h16]) rfl rfl ?_ rfl
       exact ⟨by rw [HY.out]; rfl, setRow_below L3.out R3.out (Nat.le_refl _) _⟩

set_option maxRecDepth 100000 in
set_option maxHeartbeats 4000000 in
theorem parse_any {B : Nat} (l : List UInt8) (w : World) (hE : Env B w) (hl : l.length < 4294967281) :
   Calls Tryz.prog 37 #[.string (str l)] w (AddrPost (parseS l) w) := by
 have HE := Lib.hid hE
 clear hE
 by_cases hc : 0 ≤ Lib.indexByte l 58
 · have HZ := Lib.hid (show parseS l = groupsS l from if_pos hc)
   have HC := Lib.hid (show decide (0 ≤ Lib.indexByte l 58) = true from decide_eq_true hc)
   have hlen : ((groupsS l).getD (List.replicate 16 0)).length = 16 := by
     cases h : groupsS l with
     | none => rfl
     | some a => exact groupsS_len h
   clear hc
   go_enter Tryz.func37, Tryz.ntmps37
   go_wp2_with fail
   refine (contains_any l 58 _).mono ?_
   rintro e w1 ⟨rfl, hw⟩
   have hR : Blk w1 w.heap.size 75 (cA (List.replicate 16 0)) := by rw [hw]; exact Blk.new _ _ _
   have hL : Below w.heap.size w w1 := by rw [hw]; exact (Below.refl _ _).alloc (Nat.le_refl _) _
   rw [HC.out]
   have E1 := HE.out.on hL
   clear hw
   go_wp2_with fail
   refine (groups_any l _ E1 hl).mono ?_
   rintro e w2 ⟨rfl, hb2⟩
   have HV : Hid (∀ V, V = (groupsS l).getD (List.replicate 16 0) → V = (parseS l).getD (List.replicate 16 0)) := fun V h => by rw [HZ.out, h]
   generalize hV : (groupsS l).getD (List.replicate 16 0) = V at *
   have HV2 := Lib.hid (HV.out V rfl)
   clear HV hV
   have R2 := Lib.hid (hR.below hb2 hR.lt)
   have L2 := Lib.hid (hL.trans (hb2.mono hL.size))
   clear hb2 hR hL E1
   go_wp2_with (refine go_st 75 R2.out info16 rfl (by rw [cA_size, hlen]) (cA_one _) rfl rfl rfl rfl ?_)
   refine ret_two Tryz.results37 (setRow_blk R2.out) und16 rfl info16 (by rw [cA_size, hlen]) rfl rfl ?_ rfl
   exact ⟨by rw [HV2.out, HZ.out]; rfl, setRow_below L2.out R2.out (Nat.le_refl _) _⟩
 · have HC := Lib.hid (show decide (0 ≤ Lib.indexByte l 58) = false from decide_eq_false hc)
   have hlen : ((dotS 4 l).getD (List.replicate 4 0)).length = 4 := by
     cases h : dotS 4 l with
     | none => rfl
     | some b => exact dotS_len 4 l b h
   have HP := Lib.hid (show parseS l = (dotS 4 l).map of4S from if_neg hc)
   clear hc
   go_enter Tryz.func37, Tryz.ntmps37
   go_wp2_with fail
   refine (contains_any l 58 _).mono ?_
   rintro e w1 ⟨rfl, hw⟩
   have hR : Blk w1 w.heap.size 75 (cA (List.replicate 16 0)) := by rw [hw]; exact Blk.new _ _ _
   have hL : Below w.heap.size w w1 := by rw [hw]; exact (Below.refl _ _).alloc (Nat.le_refl _) _
   rw [HC.out]
   have E1 := HE.out.on hL
   clear hw
   go_wp2_with fail
   refine (dotted_any l _ E1 hl).mono ?_
   rintro e w2 ⟨rfl, hb2⟩
   have HV : Hid (∀ V, V = (dotS 4 l).getD (List.replicate 4 0) → ∀ b, dotS 4 l = some b → V = b) := fun V h b hb => by rw [h, hb]; rfl
   generalize hV : (dotS 4 l).getD (List.replicate 4 0) = V at *
   have HV2 := Lib.hid (HV.out V rfl)
   clear HV hV
   have R2 := hR.below hb2 hR.lt
   have L2 := hL.trans (hb2.mono hL.size)
   clear hb2 hR hL E1
   go_upto_region 4 with (refine go_st 102 (Blk.new _ _ _) info4 rfl (by rw [cA_size, hlen]) (cA_one _) rfl rfl rfl rfl ?_)
   have hn := new_below w2 102 #[Value.int .u8 0, Value.int .u8 0, Value.int .u8 0, Value.int .u8 0] (cA V)
   have b4 := new_blk w2 102 #[Value.int .u8 0, Value.int .u8 0, Value.int .u8 0, Value.int .u8 0] (cA V)
   generalize (w2.alloc (.cells #[Value.int .u8 0, Value.int .u8 0, Value.int .u8 0, Value.int .u8 0] 102)).setRow w2.heap.size (cA V) = w3 at *
   have R3 := Lib.hid (R2.below hn R2.lt)
   have L3 := Lib.hid (L2.trans (hn.mono L2.size))
   have B4 := Lib.hid b4
   clear R2 L2 hn b4
   cases hd : dotS 4 l with
   | none =>
     have HY := Lib.hid (show parseS l = none by rw [HP.out, hd]; rfl)
     clear hd
     go_wp2_with (first
       | (refine go_bd0 75 _ built16 rfl rfl ?_)
       | (refine go_st 75 R3.out info16 rfl rfl (cA_one _) rfl rfl rfl rfl ?_))
     refine ret_two Tryz.results37 (setRow_blk R3.out) und16 rfl info16 rfl rfl rfl ?_ rfl
     exact ⟨by rw [HY.out]; rfl, setRow_below L3.out R3.out (Nat.le_refl _) _⟩
   | some b =>
     have hb4 := dotS_len 4 l b hd
     have HY := Lib.hid (show parseS l = some (of4S b) by rw [HP.out, hd]; rfl)
     have h16 := of4S_len hb4
     have BB := B4.out
     rw [HV2.out b hd] at BB
     clear hd
     go_wp2_with (refine go_ld 102 BB und4 rfl info4 (by rw [cA_size, hb4]) rfl rfl rfl ?_)
     refine (of4_any b hb4 _).mono ?_
     rintro e w4 ⟨rfl, hb5⟩
     have R4 := R3.out.below hb5 R3.out.lt
     have L4 := L3.out.trans (hb5.mono L3.out.size)
     clear hb5
     go_wp2_with (refine go_st 75 R4 info16 rfl (by rw [cA_size, h16]) (cA_one _) rfl rfl rfl rfl ?_)
     refine ret_two Tryz.results37 (setRow_blk R4) und16 rfl info16 (by rw [cA_size, h16]) rfl rfl ?_ rfl
     exact ⟨by rw [HY.out]; rfl, setRow_below L4 R4 (Nat.le_refl _) _⟩
end Go.Proofs.YthfknndjdfofgaaGreatDoor.Ad

/-
 Contracts of strconv.AppendInt in base 16 and of what it calls, at numbers of up to two bytes, over this seat's translation.
-/
namespace Go.Proofs.YthfknndjdfofgaaGreatDoor.Ad
open Go.RowKit Go.Proofs.YthfknndjdfofgaaGreatDoor.Wd Go.Proofs.YthfknndjdfofgaaGreatDoor.Asc

theorem pow2_16 (w : World) : Calls Tryz.prog 209 #[.int .i64 16] w fun e w' => e = .returned (.bool true) ∧ w = w' := by
 have h : bits .and .i64 16 15 = 0 := by decide
 go_enter Tryz.func209, Tryz.ntmps209
 go_wp2
 go_ret
 exact ⟨rfl, rfl⟩
theorem tz64_16 (w : World) (h : w.cell? ⟨5, 15, none⟩ = some (.int .u8 4)) : Calls Tryz.prog 212 #[.int .u64 16] w fun e w' => e = .returned (.int .i64 4) ∧ w = w' := by
 have h1 : bits .and .u64 16 (IntKind.u64.wrap (-16)) = 16 := by decide
 have h2 : IntKind.u64.wrap (16 * 285870213051353865) = 4573923408821661840 := by decide
 go_enter Tryz.func212, Tryz.ntmps212
 go_wp2
 go_ret
 exact ⟨rfl, rfl⟩
theorem tz_16 (w : World) (h : w.cell? ⟨5, 15, none⟩ = some (.int .u8 4)) : Calls Tryz.prog 210 #[.int .u64 16] w fun e w' => e = .returned (.int .i64 4) ∧ w = w' := by
 go_enter Tryz.func210, Tryz.ntmps210
 go_wp2_with fail
 refine (tz64_16 w h).mono ?_
 rintro e w1 ⟨rfl, rfl⟩
 go_wp2
 go_ret
 exact ⟨rfl, rfl⟩

abbrev digs : ByteArray := ⟨#[48, 49, 50, 51, 52, 53, 54, 55, 56, 57, 97, 98, 99, 100, 101, 102, 103, 104, 105, 106, 107, 108, 109, 110, 111, 112, 113, 114, 115, 116, 117, 118, 119, 120, 121, 122]⟩
theorem digs_all : ∀ d : Fin 16, digs.data[d.1]? = some (hdg d.1) := by decide
theorem digs_at {q : Nat} (h : q < 16) (h' : q < digs.size) : digs[q]'h' = hdg q := by
 have h1 := digs_all ⟨q, h⟩
 rw [Array.getElem?_eq_getElem h'] at h1
 injection h1
theorem set_drop {α : Type} {L : List α} {k : Nat} (h : k < L.length) (v : α) : (L.set k v).drop k = v :: L.drop (k + 1) := by
 rw [List.drop_eq_getElem_cons (by rw [List.length_set]; exact h), List.getElem_set_self, List.drop_set_of_lt (by omega)]
section
variable {P : Program} {t e : TypeId} {n : Nat} (ht : P.underlying t = some (.array n e)) (hs : (P.info? e).map (·.size) = some 1) (g k : Nat) (w : World)
include ht hs
omit ht in
theorem sz_one : (sizeOf e).run P w = .ok 1 w := by
 cases hq : P.info? e with
 | none => simp [hq] at hs
 | some i =>
   have hi : i.size = 1 := by simpa [hq] using hs
   simp [sizeOf, typeInfo, hq, hi]
theorem arr_from (hk : k ≤ n) : (Instr.sliceAt t (.pointer (some ⟨g, 0, none⟩)) (some (.int .i64 (k : Int))) none none).run P w = .ok (.slice (some (if n = k then ⟨g, 0, none⟩ else ⟨g, k, none⟩)) (n - k) (n - k)) w := by
 have h1 := sz_one (w := w) hs
 by_cases h : n = k
 · subst h
   simp [Instr.sliceAt, Instr.sureAddr, run_underlying ht, Instr.sliceBounds, run_sliceBound, h1]
 · have e2 : (Addr.mk g 0 none).add k = ⟨g, k, none⟩ := by rw [add_none, Nat.zero_add]
   simp [Instr.sliceAt, Instr.sureAddr, run_underlying ht, Instr.sliceBounds, run_sliceBound, h1, (by omega : (k : Int) ≤ (n : Int)), h, e2]
theorem arr_to (hk : k ≤ n) : (Instr.sliceAt t (.pointer (some ⟨g, 0, none⟩)) none (some (.int .i64 (k : Int))) none).run P w = .ok (.slice (some ⟨g, 0, none⟩) k n) w := by
 have h1 := sz_one (w := w) hs
 simp [Instr.sliceAt, Instr.sureAddr, run_underlying ht, Instr.sliceBounds, run_sliceBound, h1, (by omega : (k : Int) ≤ (n : Int)), Addr.add]
end
theorem und65 : Tryz.prog.underlying 226 = some (.array 65 5) := by kernel_rfl
theorem siz81 : (Tryz.prog.info? 5).map (·.size) = some 1 := by kernel_rfl
theorem inf81 : (Tryz.prog.info? 5).map (fun i => (i.zero, i.size, i.bytes)) = some (some (.int .u8 0), 1, 1) := by kernel_rfl
def FmtAt (N : Nat) (w : World) (u i : Value) (w' : World) : Prop :=
 ∃ (j : Nat) (L : List UInt8), j ≤ 3 ∧ u = .int .u64 ((N / 16 ^ j : Nat) : Int) ∧ i = .int .i64 ((65 - j : Nat) : Int) ∧ (j = 0 ∨ 16 ^ j ≤ N) ∧ L.length = 65 ∧ L.drop (65 - j) = lowT N j ∧ Blk w' w.heap.size 226 (cA L) ∧ Below w.heap.size w w'

set_option maxRecDepth 100000 in
set_option maxHeartbeats 2000000 in
theorem fmt_any {B : Nat} (N : Nat) (hN : N < 65536) (v : Value) (xs : List UInt8) (w : World) (hO : Own w B v xs) (hx : xs.length ≤ 1000) (hB : B ≤ w.heap.size) (h : w.cell? ⟨5, 15, none⟩ = some (.int .u8 4)) (hg : 5 < w.heap.size) :
   Calls Tryz.prog 203 #[v, .int .u64 (N : Int), .int .i64 16, .bool false, .bool true] w fun e w' => ∃ v', e = .returned (.tuple #[v', .string ⟨#[]⟩]) ∧ Own w' B v' (xs ++ hexT N) ∧ Below B w w' := by
 have HO := Lib.hid hO
 clear hO
 go_enter Tryz.func203, Tryz.ntmps203
 go_wp2_with fail
 have b0 : Blk (w.alloc (.cells (cA (List.replicate 65 0)) 226)) w.heap.size 226 (cA (List.replicate 65 0)) := Blk.new _ _ _
 have hb0 : Below w.heap.size w (w.alloc (.cells (cA (List.replicate 65 0)) 226)) := (Below.refl _ _).alloc (Nat.le_refl _) _
 rw [show (Obj.cells Tryz.zeroCells226 226) = .cells (cA (List.replicate 65 0)) 226 from by congr 1]
 generalize w.alloc (.cells (cA (List.replicate 65 0)) 226) = w1 at *
 refine (pow2_16 _).mono ?_
 rintro e w2 ⟨rfl, rfl⟩
 go_wp2_with fail
 refine (tz_16 _ ((hb0.cell (p := ⟨5, 15, none⟩) hg).trans h)).mono ?_
 rintro e w2 ⟨rfl, rfl⟩
 go_wp2_with fail
 go_loopw [1, 13] (fun u i w' => FmtAt N w u i w') (fun u _ _ => (intOf u).toNat)
 case atStart => exact ⟨0, List.replicate 65 0, by omega, by simp, rfl, .inl rfl, by simp, by simp [lowT], b0, hb0⟩
 case round =>
   clear b0 hb0
   obtain ⟨j, L, hj, rfl, rfl, hjn, hL, hLd, hb, hbel⟩ := hrel
   obtain ⟨U, hU⟩ : ∃ U, U = N / 16 ^ j := ⟨_, rfl⟩
   have HU := Lib.hid hU
   have hUN : U ≤ N := by rw [hU]; exact Nat.div_le_self _ _
   rw [← hU]
   obtain ⟨I, hI⟩ : ∃ I, I = 65 - j := ⟨_, rfl⟩
   rw [← hI] at hLd
   rw [← hI]
   have hI2 : 62 ≤ I ∧ I ≤ 65 := by omega
   have HI := Lib.hid hI
   clear hI
   have HLd := Lib.hid hLd
   have HB := Lib.hid hb
   have HBe := Lib.hid hbel
   have hw1 : IntKind.i64.wrap ((I : Int) - 1) = ((I - 1 : Nat) : Int) := by rw [IntWalk.i64_in _ (by omega)]; omega
   have hf := fun k => hb.frozen k
   have hcell := fun k => cell_a hb k
   clear hLd hb hbel hU
   by_cases h16 : 16 ≤ U
   · have h16i : (16 : Int) ≤ (U : Int) := by omega
     have hand : bits .and .u64 (U : Int) 15 = ((U % 16 : Nat) : Int) := by
       have h := u64_and_nat U 15 (by omega) (by omega)
       rw [show ((15 : Nat) : Int) = 15 from rfl] at h
       rw [h, show (15 : Nat) = 2 ^ 4 - 1 from rfl, Nat.and_two_pow_sub_one_eq_mod]
     have hq : U % 16 < 16 := by omega
     generalize hqq : U % 16 = q at *
     have HQ := Lib.hid hqq
     clear hqq
     have hc1 := hcell (I - 1)
     have hf1 := hf (I - 1)
     rw [List.getElem?_eq_getElem (by omega), Option.map_some] at hc1
     clear hcell hf
     have hIi : ((I - 1 : Nat) : Int) < 65 := by omega
     go_wp2_with fail
     go_roundw
     case rel =>
       rw [digs_at hq]
       have hj1 : 16 ^ (j + 1) ≤ N := by
         rw [Nat.pow_succ]
         have h1 := HU.out
         have h2 := Nat.div_mul_le_self N (16 ^ j)
         rw [← h1] at h2
         exact Nat.le_trans (Nat.mul_comm _ _ ▸ Nat.mul_le_mul_right _ h16) h2
       have hj4 : j + 1 ≤ 3 := by
         rcases Nat.lt_or_ge (j + 1) 4 with h4 | h4
         · omega
         · have h5 := Nat.pow_le_pow_right (n := 16) (by omega) h4
           have e : (16 : Nat) ^ 4 = 65536 := by decide
           omega
       have b2 := HB.out.set_ (I - 1) (.int .u8 ((hdg q).toNat : Int))
       rw [cA_set] at b2
       have hI1 := HI.out
       refine ⟨j + 1, L.set (I - 1) (hdg q), hj4, ?_, by congr 2; omega, .inr hj1, by rw [List.length_set, hL], ?_, b2, HBe.out.setCell (p := ⟨w.heap.size, I - 1, none⟩) (Nat.le_refl _) _⟩
       · congr 1
         rw [Nat.pow_succ, ← Nat.div_div_eq_div_mul, ← HU.out]
         omega
       · rw [show 65 - (j + 1) = I - 1 by omega, set_drop (by omega), show I - 1 + 1 = I by omega, HLd.out, lowT, ← HU.out, HQ.out]
     case measure => simp [intOf]; omega
   · have h16i : (U : Int) < 16 := by omega
     have hc1 := hcell (I - 1)
     have hf1 := hf (I - 1)
     rw [List.getElem?_eq_getElem (by omega), Option.map_some] at hc1
     clear hcell hf
     have hIi : ((I - 1 : Nat) : Int) < 65 := by omega
     have hsl := fun w' => arr_from und65 siz81 w.heap.size (I - 1) w' (by omega)
     rw [if_neg (by omega)] at hsl
     have HT := Lib.hid (hexT_low hN (j := j) (by rw [← HU.out]; omega) hjn)
     go_wp2_with (at_builtin; rw [digs_at (by omega)]; refine Hid.out ?_)
     refine Lib.hid ?_
     have b2 := HB.out.set_ (I - 1) (.int .u8 ((hdg U).toNat : Int))
     rw [cA_set] at b2
     have hb2 : Below w.heap.size w (wr.setCell ⟨w.heap.size, I - 1, none⟩ (.int .u8 ((hdg U).toNat : Int))) := HBe.out.setCell (p := ⟨w.heap.size, I - 1, none⟩) (Nat.le_refl _) _
     generalize wr.setCell ⟨w.heap.size, I - 1, none⟩ (.int .u8 ((hdg U).toNat : Int)) = w2 at *
     have HO2 := Lib.hid (HO.out.below hb2 (Nat.le_refl _))
     have hs2 : Src w2 (some ⟨w.heap.size, I - 1, none⟩) (65 - (I - 1)) (hexT N) := by
       have h1 := HI.out
       have hd : (L.set (I - 1) (hdg U)).drop (I - 1) = hexT N := by
         rw [set_drop (by omega), show I - 1 + 1 = I by omega, HLd.out, HU.out, HT.out]
       have hl : (hexT N).length = 65 - (I - 1) := by rw [← hd, List.length_drop, List.length_set, hL]
       rw [← hl]
       refine Src.of_blk b2 (fun j c hc => ?_)
       rw [← hd, List.getElem?_drop] at hc
       simpa [cellsOf] using cellsOf_get hc
     have HS2 := Lib.hid hs2
     have HB2 := Lib.hid (hb2.mono hB)
     have hsz := hb2.size
     clear b2 hs2 hb2 hc1 hf1 hsl
     go_wp2_with (at_builtin; refine wpList_app rfl (.tmp 95) (.tmp 97) 22 rfl Tryz.underlying22 inf81 B _ _ rfl HO2.out _ _ _ (hexT N) rfl HS2.out (by omega) (by omega) ?_; intro v3 w3 HO3 hb3)
     go_ret2
     exact ⟨_, rfl, HO3.out, HB2.out.trans hb3⟩

theorem appU_any {B : Nat} (N : Nat) (hN : N < 65536) (v : Value) (xs : List UInt8) (w : World) (hO : Own w B v xs) (hx : xs.length ≤ 1000) (hB : B ≤ w.heap.size) (h : w.cell? ⟨5, 15, none⟩ = some (.int .u8 4)) (hg : 5 < w.heap.size) :
   Calls Tryz.prog 186 #[v, .int .u64 (N : Int), .int .i64 16] w fun e w' => ∃ v', e = .returned v' ∧ Own w' B v' (xs ++ hexT N) ∧ Below B w w' := by
 have HF := Lib.hid (fmt_any N hN v xs w hO hx hB h hg)
 clear hO
 go_enter Tryz.func186, Tryz.ntmps186
 go_wp2_with fail
 refine HF.out.mono ?_
 rintro e w1 ⟨v1, rfl, hO1, hb1⟩
 have HO1 := Lib.hid hO1
 have HB1 := Lib.hid hb1
 clear hO1 hb1
 go_wp2_with fail
 go_ret
 exact ⟨_, rfl, HO1.out, HB1.out⟩
theorem appI_in {B : Nat} (N : Nat) (hN : N < 65536) (v : Value) (xs : List UInt8) (w : World) (hO : Own w B v xs) (hx : xs.length ≤ 1000) (hB : B ≤ w.heap.size) (h : w.cell? ⟨5, 15, none⟩ = some (.int .u8 4)) (hg : 5 < w.heap.size) :
   Calls Tryz.prog 152 #[v, .int .i64 (N : Int), .int .i64 16] w fun e w' => ∃ v', e = .returned v' ∧ Own w' B v' (xs ++ hexT N) ∧ Below B w w' := by
 have HF := Lib.hid (appU_any N hN v xs w hO hx hB h hg)
 clear hO
 go_enter Tryz.func152, Tryz.ntmps152
 go_wp2_with fail
 refine HF.out.mono ?_
 rintro e w1 ⟨v1, rfl, hO1, hb1⟩
 have HO1 := Lib.hid hO1
 have HB1 := Lib.hid hb1
 clear hO1 hb1
 go_wp2_with fail
 go_ret
 exact ⟨_, rfl, HO1.out, HB1.out⟩
theorem appI_any {B : Nat} (N : Nat) (hN : N < 65536) (v : Value) (xs : List UInt8) (w : World) (hO : Own w B v xs) (hx : xs.length ≤ 1000) (hB : B ≤ w.heap.size) (h : w.cell? ⟨5, 15, none⟩ = some (.int .u8 4)) (hg : 5 < w.heap.size) :
   Calls Tryz.prog 106 #[v, .int .i64 (N : Int), .int .i64 16] w fun e w' => ∃ v', e = .returned v' ∧ Own w' B v' (xs ++ hexT N) ∧ Below B w w' := by
 have HF := Lib.hid (appI_in N hN v xs w hO hx hB h hg)
 clear hO
 go_enter Tryz.func106, Tryz.ntmps106
 go_wp2_with fail
 refine HF.out.mono ?_
 rintro e w1 ⟨v1, rfl, hO1, hb1⟩
 have HO1 := Lib.hid hO1
 have HB1 := Lib.hid hb1
 clear hO1 hb1
 go_wp2_with fail
 go_ret
 exact ⟨_, rfl, HO1.out, HB1.out⟩
end Go.Proofs.YthfknndjdfofgaaGreatDoor.Ad
