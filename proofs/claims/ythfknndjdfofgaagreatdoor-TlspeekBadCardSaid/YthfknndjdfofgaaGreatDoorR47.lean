/-
 Contracts of hagioscoperef10's PutName, PutProtocols and PutVersions over this seat's translation.
-/
import Derived.Test.YthfknndjdfofgaaGreatDoorR07
import Derived.Test.YthfknndjdfofgaaGreatDoorR25
import Derived.Test.YthfknndjdfofgaaGreatDoorR26
import Derived.Test.YthfknndjdfofgaaGreatDoorR03
import Derived.Lib.AppendStr
namespace Go.Proofs.YthfknndjdfofgaaGreatDoor.Ex
open Go.RowKit Go.Proofs.YthfknndjdfofgaaGreatDoor.Wd Go.Proofs.YthfknndjdfofgaaGreatDoor.Be Go.Proofs.YthfknndjdfofgaaGreatDoor.He Go.Proofs.YthfknndjdfofgaaGreatDoor.Ro

theorem wpList_appS {ops : Array Oper} {rest : List Oper} {o : Oper} {a : Act} {w : World} {Q : Exit → Act → World → Prop} (hgd : o.guard = none) (s x : Operand)
   (ho : o.op = .call { callee := .builtin .append, args := #[s, x], argTypes := #[22, 9] })
   (B : Nat) (v : Value) (xs ys : List UInt8) (hs : a.eval s = v) (hown : Own w B v xs) (hx : a.eval x = .string (str8 ys)) (hlen : xs.length + ys.length ≤ 140737488355328) (hB : B ≤ w.heap.size)
   (h : ∀ v' w', Hid (Own w' B v' (xs ++ ys)) → Hid (w.grownBy w' v.ownBlock) → wpList Tryz.prog ops Q rest (a.put o.dst v') w') : wpList Tryz.prog ops Q (o :: rest) a w := by
 obtain ⟨i0, hi, hz0, hz1, hz2⟩ := info_parts inf8
 refine Lib.wpList_append_own_string w hgd s x 22 9 ho B 5 i0 und8 Tryz.underlying9 hi hz0 hz1 hz2 v xs.length (cellsOf xs) hs hown (str8 ys) hx (by unfold maxLen; show xs.length + ys.length ≤ _; omega) hlen hB ?_
 intro v' w' h1 h2 _
 refine h v' w' (Lib.hid ?_) (Lib.hid h2)
 have e : Lib.strCells (str8 ys) = cellsOf ys := by simp [Lib.strCells, cellsOf, str8, b8]
 rw [e, ← cellsOf_append] at h1
 unfold Own
 rw [List.length_append]
 exact h1

theorem rvecP_any (A : Option Addr) (n c k : Nat) (B : Option Addr) (m d : Nat) (size : Int) (xs ys : List UInt8) (w : World) (hs : Src w A n xs) (ht : Src w B m ys) (hn : n ≤ 100000) (hm : m ≤ 100000) (hk : clampI size = k) (hk2 : k ≤ 2) :
   Calls Tryz.prog 58 #[.slice A n c, .int .i64 size, .slice B m d] w (VecP xs (vecP xs k ys) w) := by
 have hp : 256 ^ k ≤ 65536 := Nat.pow_le_pow_right (n := 256) (by omega) hk2
 have hpi : ((256 ^ k : Nat) : Int) = 256 ^ k := by rw [Int.natCast_pow]; rfl
 by_cases h : ys.length < 256 ^ k
 · have hlt : m < 256 ^ k := by rw [← ht.1]; exact h
   refine (RefBe.rvec_yes A n c k B m d size xs ys w hs ht hn hm hk (by omega)).mono ?_
   rintro e w' ⟨v, rfl, ho, hbel⟩
   have hv : vecP xs k ys = some (xs ++ vecB k ys) := if_pos h
   have e1 : xs ++ bytesOf (m : Int) k ++ ys = xs ++ vecB k ys := by rw [vecB, ht.1, List.append_assoc]
   rw [e1] at ho
   obtain ⟨A', c', rfl, h1, h2⟩ := Own.src ho
   rw [hv]
   exact ⟨_, _, _, rfl, h2, h1, hbel⟩
 · have hlt : ¬ m < 256 ^ k := by rw [← ht.1]; exact h
   refine (RefBe.rvec_no A n c k B m d size xs w hs hn hm hk (by omega)).mono ?_
   rintro e w' ⟨v, rfl, ho, hbel⟩
   have hv : vecP xs k ys = none := if_neg h
   obtain ⟨A', c', rfl, h1, h2⟩ := Own.src ho
   rw [hv]
   exact ⟨_, _, _, rfl, h2, h1, hbel⟩

def NewA (w : World) (A : Option Addr) : Prop := ∀ x, A = some x → w.heap.size ≤ x.block
def ItemO (p : Option (List UInt8)) (w : World) (e : Ending) (w' : World) : Prop :=
 ∃ A n c, e = .returned (.tuple #[.slice A n c, .bool p.isSome]) ∧ Src w' A n (p.getD []) ∧ n ≤ c ∧ Below w.heap.size w w' ∧ NewA w A
theorem NewA.none (w : World) : NewA w none := fun _ h => by cases h
theorem rvecN_any (A : Option Addr) (n c k : Nat) (B : Option Addr) (m d : Nat) (size : Int) (xs ys : List UInt8) (w : World) (hs : Src w A n xs) (ht : Src w B m ys) (hn : n ≤ 100000) (hm : m ≤ 100000) (hk : clampI size = k) (hk2 : k ≤ 2) :
   Calls Tryz.prog 58 #[.slice A n c, .int .i64 size, .slice B m d] w fun e w' => ∃ A n c, e = .returned (.tuple #[.slice A n c, .bool (vecP xs k ys).isSome]) ∧ Src w' A n ((vecP xs k ys).getD xs) ∧ n ≤ c ∧ Below w.heap.size w w' ∧ NewA w A := by
 have hp : 256 ^ k ≤ 65536 := Nat.pow_le_pow_right (n := 256) (by omega) hk2
 have hpi : ((256 ^ k : Nat) : Int) = 256 ^ k := by rw [Int.natCast_pow]; rfl
 by_cases h : ys.length < 256 ^ k
 · have hlt : m < 256 ^ k := by rw [← ht.1]; exact h
   refine (RefBe.rvec_yes A n c k B m d size xs ys w hs ht hn hm hk (by omega)).mono ?_
   rintro e w' ⟨v, rfl, ho, hbel⟩
   have hv : vecP xs k ys = some (xs ++ vecB k ys) := if_pos h
   have e1 : xs ++ bytesOf (m : Int) k ++ ys = xs ++ vecB k ys := by rw [vecB, ht.1, List.append_assoc]
   rw [e1] at ho
   obtain ⟨A', c', rfl, h1, h2, h3⟩ := Own.cut_ ho
   rw [hv]
   exact ⟨_, _, _, rfl, h2, h1, hbel, h3⟩
 · have hlt : ¬ m < 256 ^ k := by rw [← ht.1]; exact h
   refine (RefBe.rvec_no A n c k B m d size xs w hs hn hm hk (by omega)).mono ?_
   rintro e w' ⟨v, rfl, ho, hbel⟩
   have hv : vecP xs k ys = none := if_neg h
   obtain ⟨A', c', rfl, h1, h2, h3⟩ := Own.cut_ ho
   rw [hv]
   exact ⟨_, _, _, rfl, h2, h1, hbel, h3⟩

theorem byteOf_nat (n : Nat) : Go.Proofs.YthfknndjdfofgaaGreatDoor.Be.byteOf (n : Int) = UInt8.ofNat (n % 256) := by
 unfold Go.Proofs.YthfknndjdfofgaaGreatDoor.Be.byteOf
 congr 1
theorem lay_name {x : List UInt8} (h : mayS x = true) : layS putN 2 [x] = some (UInt8.ofNat ((x.length + 3) / 256) :: UInt8.ofNat ((x.length + 3) % 256) :: 0 :: 0 :: UInt8.ofNat x.length :: x) := by
 have hl := may_len h
 have hp : putN x = some ((0 : UInt8) :: vecB 2 x) := if_pos h
 have hc : catO putN [x] = some ((0 : UInt8) :: vecB 2 x) := by
   simp only [catO, hp, List.append_nil]
 have hv : ((0 : UInt8) :: vecB 2 x).length = x.length + 3 := by rw [List.length_cons, vecB_len]; omega
 have e2 : (256 : Nat) ^ 2 = 65536 := rfl
 rw [layS_end hc, if_neg (by simp), if_pos (by rw [hv]; omega)]
 have h2 : ∀ m : Nat, bytesOf (m : Int) 2 = [UInt8.ofNat (m / 256 % 256), UInt8.ofNat (m % 256)] := fun m => by
   have : bytesOf (m : Int) 2 = [Go.Proofs.YthfknndjdfofgaaGreatDoor.Be.byteOf ((m : Int) / 256), Go.Proofs.YthfknndjdfofgaaGreatDoor.Be.byteOf (m : Int)] := rfl
   rw [this, byteOf_nat, show ((m : Int) / 256) = ((m / 256 : Nat) : Int) by omega, byteOf_nat]
 rw [vecB, hv, h2, vecB, h2, Nat.mod_eq_of_lt (show (x.length + 3) / 256 < 256 by omega), show x.length / 256 % 256 = 0 by omega, Nat.mod_eq_of_lt (show x.length < 256 by omega)]
 rfl
theorem lay_none {x : List UInt8} (h : mayS x = false) : layS putN 2 [x] = none := by
 have hp : putN x = none := by rw [putN, h]; rfl
 rw [layS]
 simp only [catO, hp]

set_option maxRecDepth 100000 in
set_option maxHeartbeats 1000000 in
theorem rpname_new (x : List UInt8) (w : World) (hx : x.length ≤ 1000) : Calls Tryz.prog 32 #[.string (str8 x)] w (ItemO (layS putN 2 [x]) w) := by
 have HM := Lib.hid (show mayS x = (decide (x.length ≤ 255) && Asc.allS Asc.visI x) from rfl)
 obtain ⟨N, hxN⟩ : ∃ N, x.length = N := ⟨_, rfl⟩
 have hN : (str8 x).size = N := hxN
 rw [hxN] at HM hx
 have HX := Lib.hid hxN
 obtain ⟨s, hs⟩ : ∃ s, str8 x = s := ⟨_, rfl⟩
 have hbs : Asc.bs s = x := by rw [← hs]; exact bs_str8 x
 rw [hs] at hN ⊢
 have HS := Lib.hid hs
 clear hs hxN
 go_enter Tryz.func32, Tryz.ntmps32
 go_wp2_with fail
 refine (Asc.rvisible_any s w (by unfold maxLen; omega)).mono ?_
 rintro e w1 ⟨rfl, rfl⟩
 rw [hbs]
 have HBs := Lib.hid hbs
 clear hbs
 obtain ⟨b, hb⟩ : ∃ b, Asc.allS Asc.visI x = b := ⟨_, rfl⟩
 rw [hb] at HM ⊢
 clear hb
 by_cases h255 : N ≤ 255
 · have hd : decide ((255 : Int) < (N : Int)) = false := decide_eq_false (by omega)
   have hdz : ¬ (255 : Int) < (N : Int) := by omega
   cases b with
   | true =>
     have hm : mayS x = true := by rw [HM.out, decide_eq_true h255]; rfl
     have HL := Lib.hid (lay_name hm)
     rw [HX.out] at HL
     have hw1 : IntKind.u8.wrap (N : Int) = (N : Int) := by rw [IntKind.wrap_u8]; omega
     clear hm HM
     have hC : (#[.int .u8 0, .int .u8 0, .int .u8 0, .int .u8 0, .int .u8 (N : Int)] : Array Value) = (cellsOf [0, 0, 0, 0, UInt8.ofNat N]).toArray := by
       simp [cellsOf, b8]
       omega
     have HO := Lib.hid (show Own (w.alloc (.cells #[.int .u8 0, .int .u8 0, .int .u8 0, .int .u8 0, .int .u8 (N : Int)] 5)) w.heap.size (.slice (some ⟨w.heap.size, 0, none⟩) 5 5) [0, 0, 0, 0, UInt8.ofNat N] from
       ⟨rfl, .inr ⟨w.heap.size, 5, _, rfl, Nat.le_refl _, heap_alloc_new w _, Nat.le_refl _, by unfold maxLen; omega, rfl, by rw [hC]; rfl⟩⟩)
     have HB0 := Lib.hid ((Below.refl w.heap.size w).alloc (Nat.le_refl _) (.cells #[.int .u8 0, .int .u8 0, .int .u8 0, .int .u8 0, .int .u8 (N : Int)] 5))
     clear hC
     go_upto_region 5 with (at_builtin; refine wpList_appS rfl _ _ rfl w.heap.size _ [0, 0, 0, 0, UInt8.ofNat N] x rfl (by exact HO.out) (by rw [HS.out]; rfl) (by simp [HX.out]; omega) (by simp) ?_; intro v1 w1 HO1 HG1)
     have HB1 := Lib.hid (HB0.out.grown HG1.out (by simp) (fun j hj => by have h1 : w.heap.size = j := Option.some.inj hj; omega))
     obtain ⟨hl, ⟨rfl, h0⟩ | ⟨g, cap, cur, rfl, hg, hh, hc, hm, hz, ht⟩⟩ := HO1.out
     · simp at h0
     have hlen : ([0, 0, 0, 0, UInt8.ofNat N] ++ x).length = N + 5 := by rw [List.length_append, HX.out]; simp; omega
     rw [hlen] at hc ht ⊢
     have hb1 : Blk w1 g 5 cur := hh
     have HGet := Lib.hid (show ∀ j c, ([0, 0, 0, 0, UInt8.ofNat N] ++ x)[j]? = some c → cur[j]? = some (b8 c) from fun j c hj => by
       have h1 := cellsOf_get hj
       rw [← ht, List.getElem?_take] at h1
       split at h1
       · rwa [Array.getElem?_toList] at h1
       · cases h1)
     have hk0 : w1.cell? ⟨g, 0, none⟩ = some (.int .u8 0) := by rw [hb1.cell]; exact HGet.out 0 0 rfl
     have hk1 : w1.cell? ⟨g, 1, none⟩ = some (.int .u8 0) := by rw [hb1.cell]; exact HGet.out 1 0 rfl
     have hf0 := hb1.frozen 0
     have hf1 := hb1.frozen 1
     have HBk := Lib.hid hb1
     have HHl := Lib.hid hlen
     clear hl hh hm hz ht hb1 HG1 HO1 HO HB0 hlen
     go_wp2_with fail
     have hb3 := (HBk.out.set_ 1 (.int .u8 (((N : Int) + 3) % 256))).set_ 0 (.int .u8 (((N : Int) + 3) / 256))
     have hgr := only_setCell (p := ⟨g, 0, none⟩) (only_setCell (p := ⟨g, 1, none⟩) (only_refl w1 (some g)) (.inl rfl) (.int .u8 (((N : Int) + 3) % 256))) (.inl rfl) (.int .u8 (((N : Int) + 3) / 256))
     have hB3 := HB1.out.grown hgr HB1.out.size (fun j hj => by injection hj with hj; omega)
     have hsrc := Src.of_blk (off := 0) (xs := UInt8.ofNat ((N + 3) / 256) :: UInt8.ofNat ((N + 3) % 256) :: 0 :: 0 :: UInt8.ofNat N :: x) hb3 (fun j c hj => by
       rw [Nat.zero_add]
       simp only [Array.getElem?_setIfInBounds, Array.size_setIfInBounds]
       match j, hj with
       | 0, hj =>
         have hin : 0 < cur.size := (Array.getElem?_eq_some_iff.1 (HGet.out 0 0 rfl)).1
         rw [if_pos rfl, if_pos hin]
         simp at hj
         subst hj
         simp [b8]
         omega
       | 1, hj =>
         have hin : 1 < cur.size := (Array.getElem?_eq_some_iff.1 (HGet.out 1 0 rfl)).1
         rw [if_neg (by omega), if_pos rfl, if_pos hin]
         simp at hj
         subst hj
         simp [b8]
       | j + 2, hj =>
         rw [if_neg (by omega), if_neg (by omega)]
         exact HGet.out (j + 2) c hj)
     have hlen2 : (UInt8.ofNat ((N + 3) / 256) :: UInt8.ofNat ((N + 3) % 256) :: 0 :: 0 :: UInt8.ofNat N :: x).length = N + 5 := by simp [HX.out]
     rw [hlen2] at hsrc
     go_ret2
     rw [HL.out]
     exact ⟨_, _, _, rfl, hsrc, hc, hB3, fun y hy => by injection hy with hy; subst hy; exact hg⟩
   | false =>
     have HL := Lib.hid (show layS putN 2 [x] = none from lay_none (by rw [HM.out]; simp))
     clear HM
     go_wp2_with fail
     go_ret2
     rw [HL.out]
     exact ⟨none, 0, 0, rfl, Src.nil _, Nat.le_refl _, Below.refl _ _, NewA.none _⟩
 · have hd : decide ((255 : Int) < (N : Int)) = true := decide_eq_true (by omega)
   have hdz : (255 : Int) < (N : Int) := by omega
   have HL := Lib.hid (show layS putN 2 [x] = none from lay_none (by rw [HM.out, decide_eq_false h255]; rfl))
   clear HM
   go_wp2_with fail
   go_ret2
   rw [HL.out]
   exact ⟨none, 0, 0, rfl, Src.nil _, Nat.le_refl _, Below.refl _ _, NewA.none _⟩
end Go.Proofs.YthfknndjdfofgaaGreatDoor.Ex

/-
 Contracts of hagioscoperef10's PutProtocols and PutVersions over this seat's translation.
-/
namespace Go.Proofs.YthfknndjdfofgaaGreatDoor.Ex
open Go.RowKit Go.Proofs.YthfknndjdfofgaaGreatDoor.Wd Go.Proofs.YthfknndjdfofgaaGreatDoor.Be Go.Proofs.YthfknndjdfofgaaGreatDoor.He Go.Proofs.YthfknndjdfofgaaGreatDoor.Ro

structure PpAt (w : World) (l : List (List UInt8)) (k : Nat) (A : Option Addr) (n c : Nat) (ws : List UInt8) (wr : World) : Prop where
 src : Src wr A n ws
 cat : catO putP (l.take k) = some ws
 len : ws.length ≤ 70000
 bel : Below w.heap.size w wr
theorem putP_yes {x : List UInt8} (h0 : x ≠ []) (h : x.length < 256) : putP x = some (vecB 1 x) := by rw [putP, if_neg h0, if_pos h]
theorem catO_nil : ∀ {l : List (List UInt8)} {w : List UInt8}, catO putP l = some w → (w = [] ↔ l = [])
 | [], w, h => by injection h with h; subst h; simp
 | x :: l, w, h => by
   rw [catO] at h
   cases hp : putP x with
   | none => rw [hp] at h; cases h
   | some a =>
     rw [hp] at h
     cases hc : catO putP l with
     | none => rw [hc] at h; cases h
     | some b =>
       rw [hc] at h
       injection h with h
       subst h
       have : a ≠ [] := by
         unfold putP at hp
         split at hp
         · cases hp
         · split at hp
           · injection hp with hp
             intro h
             have := vecB_len 1 x
             rw [hp, h] at this
             simp at this
             omega
           · cases hp
       simp [this]

set_option maxRecDepth 100000 in
set_option maxHeartbeats 1000000 in
theorem rpprotos_sum (A : Option Addr) (n c : Nat) (l : List (List UInt8)) (w : World) (hs : SrcE w elS A l) (hl : l.length = n) (hn : n ≤ 100000) (hok : ∀ x ∈ l, x.length ≤ 1000) (hsum : ∀ k ws, catO putP (l.take k) = some ws → ws.length ≤ 70000) :
   Calls Tryz.prog 33 #[.slice A n c] w (ItemO (layS putP 2 l) w) := by
 have HS := Lib.hid hs
 have HN := Lib.hid hl
 have HK := Lib.hid hok
 have HU := Lib.hid hsum
 clear hs hl hok hsum
 go_enter Tryz.func33, Tryz.ntmps33
 go_wp2_with fail
 go_loopw [4, 5] (fun v i wr => ∃ k m c A ws, k ≤ n ∧ i = .int .i64 (k : Int) ∧ v = .slice A m c ∧ Hid (PpAt w l k A m c ws wr)) (fun _ i _ => n - (intOf i).toNat)
 case atStart => exact ⟨0, 0, 0, none, [], Nat.zero_le _, rfl, rfl, Lib.hid ⟨Src.nil _, rfl, Nat.zero_le _, Below.refl _ _⟩⟩
 case round =>
   obtain ⟨k, m, c1, A1, ws, hk, rfl, rfl, HA⟩ := hrel
   by_cases hlt : k < n
   · have hki : (k : Int) < (n : Int) := by omega
     obtain ⟨x, hx⟩ : ∃ x, l[k]? = some x := ⟨_, List.getElem?_eq_getElem (by have := HN.out; omega)⟩
     obtain ⟨g, o, hA, hg, hc⟩ := HS.out k x hx
     have HC0 := Lib.hid (show ∀ w', Below w.heap.size w w' → w'.cell? ⟨g, o + k, none⟩ = some (.string (str8 x)) from fun w' hb => (hb.cell (p := ⟨g, _, none⟩) hg).trans (by have := hc 0 _ rfl; simpa [elS] using this))
     have hc0 := HC0.out wr HA.out.bel
     rw [hA]
     have hxl := HK.out x (List.mem_of_getElem? hx)
     have HX := Lib.hid hx
     clear hA hc hx
     obtain ⟨c2, w2, hcv, hs2, hb2, hsz2, _⟩ := bytes_str8 x wr
     have HS2 := Lib.hid hs2
     have HS1 := Lib.hid (HA.out.src.below hb2)
     have HB2 := Lib.hid (HA.out.bel.trans (hb2.mono HA.out.bel.size))
     have hm := HA.out.src.1
     have hml := HA.out.len
     clear hs2 hb2 hsz2
     obtain ⟨xl, hxe⟩ : ∃ n, x.length = n := ⟨_, rfl⟩
     rw [hxe] at hxl HS2 hcv
     have HXl := Lib.hid hxe
     clear hxe
     go_wp2_with fail
     refine (rvecP_any A1 m c1 1 _ xl c2 1 ws x w2 HS1.out HS2.out (by omega) (by omega) cl1 (by omega)).mono ?_
     rintro e w3 ⟨A3, n3, c3, rfl, hs3, hnc3, hb3⟩
     have HB3 := Lib.hid (HB2.out.trans (hb3.mono HB2.out.size))
     have HS3 := Lib.hid hs3
     have hd0 := HC0.out w3 HB3.out
     have hsize : (str8 x).size = xl := HXl.out
     clear hs3 hb3 hcv HS2 HS1 HB2 hc0
     by_cases hbig : xl < 256
     · have hv : vecP ws 1 x = some (ws ++ vecB 1 x) := if_pos (by rw [HXl.out]; exact hbig)
       rw [hv] at HS3 ⊢
       by_cases h0 : xl = 0
       · have HE := Lib.hid (show layS putP 2 l = none from layS_no HX.out (if_pos (List.eq_nil_of_length_eq_zero (by rw [HXl.out]; exact h0))))
         have hb0 : ((xl : Int) == 0) = true := by simp [h0]
         clear h0 hbig hv
         go_wp2_with fail
         go_ret2
         rw [HE.out]
         exact ⟨none, 0, 0, rfl, Src.nil _, Nat.le_refl _, HB3.out, NewA.none _⟩
       · have hb0 : ((xl : Int) == 0) = false := beq_eq_false_iff_ne.2 (by omega)
         have HC := Lib.hid (catO_take HX.out HA.out.cat (putP_yes (fun h => h0 (by rw [← HXl.out, h]; rfl)) (by rw [HXl.out]; exact hbig)))
         have HSn := Lib.hid (show Src w3 A3 n3 (ws ++ vecB 1 x) from HS3.out)
         clear h0 hv HS3
         go_wp2_with fail
         go_roundw
         case rel => exact ⟨k + 1, n3, c3, A3, _, by omega, by go_num, rfl, Lib.hid ⟨HSn.out, HC.out, HU.out _ _ HC.out, HB3.out⟩⟩
         case measure => simp [intOf]; omega
     · have hv : vecP ws 1 x = none := if_neg (by rw [HXl.out]; exact hbig)
       rw [hv] at HS3 ⊢
       have HE := Lib.hid (show layS putP 2 l = none from layS_no HX.out (by rw [putP, if_neg (fun h => hbig (by rw [← HXl.out, h]; show (0 : Nat) < 256; omega)), if_neg (by rw [HXl.out]; exact hbig)]))
       clear hbig hv
       go_wp2_with fail
       go_ret2
       rw [HE.out]
       exact ⟨none, 0, 0, rfl, Src.nil _, Nat.le_refl _, HB3.out, NewA.none _⟩
   · obtain rfl : k = n := by omega
     have HC := Lib.hid (show catO putP l = some ws by have := HA.out.cat; rwa [← HN.out, List.take_length] at this)
     have HE := Lib.hid (layS_end (j := 2) HC.out)
     have HN0 := Lib.hid (catO_nil HC.out)
     have HS1 := Lib.hid HA.out.src
     have HB1 := Lib.hid HA.out.bel
     have hm := HA.out.src.1
     have hml := HA.out.len
     clear HA
     go_wp2_with fail
     refine (rvecN_any none 0 0 2 A1 m c1 2 [] ws wr (Src.nil _) HS1.out (by omega) (by omega) cl2 (by omega)).mono ?_
     rintro e w3 ⟨A3, n3, c3, rfl, hs3, hnc3, hb3, hnew⟩
     have HNw := Lib.hid (show NewA w A3 from fun y hy => Nat.le_trans HB1.out.size (hnew y hy))
     clear hnew
     have HB3 := Lib.hid (HB1.out.trans (hb3.mono HB1.out.size))
     have HS3 := Lib.hid hs3
     clear hs3 hb3
     by_cases hbig : ws.length < 256 ^ 2
     · have hv : vecP [] 2 ws = some ([] ++ vecB 2 ws) := if_pos hbig
       rw [hv] at HS3 ⊢
       by_cases h0 : k = 0
       · have HF := Lib.hid (show layS putP 2 l = none by rw [HE.out, if_pos (HN0.out.2 (List.eq_nil_of_length_eq_zero (by rw [HN.out]; exact h0)))])
         have hb0 : ((k : Int) == 0) = true := by simp [h0]
         clear h0 hbig hv hml
         go_wp2_with fail
         go_ret2
         rw [HF.out]
         exact ⟨none, 0, 0, rfl, Src.nil _, Nat.le_refl _, HB3.out, NewA.none _⟩
       · have hb0 : ((k : Int) == 0) = false := beq_eq_false_iff_ne.2 (by omega)
         have HF := Lib.hid (show layS putP 2 l = some (vecB 2 ws) by rw [HE.out, if_neg (fun h => h0 (by rw [← HN.out, HN0.out.1 h]; rfl)), if_pos hbig])
         have HSn := Lib.hid (show Src w3 A3 n3 (vecB 2 ws) from HS3.out)
         clear h0 hbig hv hml HS3
         go_wp2_with fail
         go_ret2
         rw [HF.out]
         exact ⟨A3, n3, c3, rfl, HSn.out, hnc3, HB3.out, HNw.out⟩
     · have hv : vecP [] 2 ws = none := if_neg hbig
       rw [hv] at HS3 ⊢
       have HF := Lib.hid (show layS putP 2 l = none by
         rw [HE.out]
         split
         · rfl
         · rfl)
       clear hbig hv hml
       go_wp2_with fail
       go_ret2
       rw [HF.out]
       exact ⟨none, 0, 0, rfl, Src.nil _, Nat.le_refl _, HB3.out, NewA.none _⟩
structure PvAt (w : World) (l : List Int) (k : Nat) (A : Option Addr) (m : Nat) (ws : List UInt8) (wr : World) : Prop where
 src : Src wr A m (UInt8.ofNat (2 * l.length) :: ws)
 cat : catO putV (l.take k) = some ws
 bel : Below w.heap.size w wr

end Go.Proofs.YthfknndjdfofgaaGreatDoor.Ex
