/-
 Contracts of package ascii's functions of one rune that Number and Hex reach: isDigit, digit.
-/
import Derived.Test.YthfknndjdfofgaaGreatDoorR01
import Derived.Test.YthfknndjdfofgaaGreatDoorR04
import Derived.Lib.Strings
import Derived.Test.YthfknndjdfofgaaGreatDoorR06
namespace Go.Proofs.YthfknndjdfofgaaGreatDoor.Asc
open Go.RowKit Go.Proofs.YthfknndjdfofgaaGreatDoor.Wd

theorem ret_b {a b : Bool} (h : a = b) : Ending.returned (.bool a) = .returned (.bool b) := by rw [h]

theorem isDigit_any (r : Int) (w : World) : Calls Tryz.prog 199 #[.int .i32 r] w fun e w' => e = .returned (.bool (digI r)) ∧ w = w' := by
 by_cases a1 : 48 ≤ r <;> by_cases a2 : r ≤ 57
 all_goals first
   | (exfalso; omega)
   | (go_enter Tryz.func199, Tryz.ntmps199
      go_wp2
      go_ret
      exact ⟨ret_b (by simp [digI] <;> omega), rfl⟩)

theorem digit_none (r : Int) (w : World) (h : hexI r = none) : Calls Tryz.prog 185 #[.int .i32 r] w fun e w' => e = .returned (.tuple #[.int .i64 0, .bool false]) ∧ w = w' := by
 have n1 : ¬ (48 ≤ r ∧ r ≤ 57) := fun k => by rw [hexI, if_pos k] at h; cases h
 have n2 : ¬ (97 ≤ r ∧ r ≤ 102) := fun k => by rw [hexI, if_neg n1, if_pos k] at h; cases h
 have n3 : ¬ (65 ≤ r ∧ r ≤ 70) := fun k => by rw [hexI, if_neg n1, if_neg n2, if_pos k] at h; cases h
 have D := Lib.hid (show digI r = false by simp [digI]; omega)
 clear h
 by_cases a1 : 97 ≤ r <;> by_cases a2 : r ≤ 102 <;> by_cases a3 : 65 ≤ r <;> by_cases a4 : r ≤ 70
 all_goals first
   | (exfalso; omega)
   | (clear n1 n2 n3
      go_enter Tryz.func185, Tryz.ntmps185
      go_wp2_with (go_at_call 199; refine (isDigit_any _ _).mono ?_; rintro e w' ⟨rfl, rfl⟩; rw [D.out])
      go_ret2
      exact ⟨rfl, rfl⟩)

theorem ret_nb {a b : Int} (h : a = b) : Ending.returned (.tuple #[.int .i64 a, .bool true]) = .returned (.tuple #[.int .i64 b, .bool true]) := by rw [h]

theorem digit_some (r d : Int) (w : World) (h : hexI r = some d) : Calls Tryz.prog 185 #[.int .i32 r] w fun e w' => e = .returned (.tuple #[.int .i64 d, .bool true]) ∧ w = w' := by
 by_cases n1 : 48 ≤ r ∧ r ≤ 57
 · have e : d = r - 48 := by rw [hexI, if_pos n1] at h; injection h; omega
   have D := Lib.hid (show digI r = true by simp [digI]; omega)
   obtain ⟨a1, a2⟩ := n1
   clear h
   subst e
   go_enter Tryz.func185, Tryz.ntmps185
   go_wp2_with (go_at_call 199; refine (isDigit_any _ _).mono ?_; rintro e w' ⟨rfl, rfl⟩; rw [D.out])
   go_ret2
   exact ⟨ret_nb (by omega), rfl⟩
 · have D := Lib.hid (show digI r = false by simp [digI]; omega)
   by_cases n2 : 97 ≤ r ∧ r ≤ 102
   · have e : d = r - 87 := by rw [hexI, if_neg n1, if_pos n2] at h; injection h; omega
     obtain ⟨a1, a2⟩ := n2
     clear h n1
     subst e
     go_enter Tryz.func185, Tryz.ntmps185
     go_wp2_with (go_at_call 199; refine (isDigit_any _ _).mono ?_; rintro e w' ⟨rfl, rfl⟩; rw [D.out])
     go_ret2
     exact ⟨ret_nb (by omega), rfl⟩
   · by_cases n3 : 65 ≤ r ∧ r ≤ 70
     · have e : d = r - 55 := by rw [hexI, if_neg n1, if_neg n2, if_pos n3] at h; injection h; omega
       obtain ⟨a1, a2⟩ := n3
       clear h n1 n2
       subst e
       have b : ¬ 97 ≤ r := by omega
       go_enter Tryz.func185, Tryz.ntmps185
       go_wp2_with (go_at_call 199; refine (isDigit_any _ _).mono ?_; rintro e w' ⟨rfl, rfl⟩; rw [D.out])
       go_ret2
       exact ⟨ret_nb (by omega), rfl⟩
     · rw [hexI, if_neg n1, if_neg n2, if_neg n3] at h
       cases h

theorem below_iter (w : World) (s : ByteArray) (pos : Nat) : Below w.heap.size w (w.iter s pos) := (Below.refl _ _).alloc (Nat.le_refl _) _
end Go.Proofs.YthfknndjdfofgaaGreatDoor.Asc

/-
 Contracts of package ascii's functions of one rune: isLetter, isDigit, isSign, isToken, isVisible, isBlank, digit.
-/
namespace Go.Proofs.YthfknndjdfofgaaGreatDoor.Asc
open Go.RowKit Go.Proofs.YthfknndjdfofgaaGreatDoor.Wd


theorem isVisible_any (r : Int) (w : World) : Calls Tryz.prog 147 #[.int .i32 r] w fun e w' => e = .returned (.bool (visI r)) ∧ w = w' := by
 by_cases a1 : 33 ≤ r <;> by_cases a2 : r ≤ 126
 all_goals first
   | (exfalso; omega)
   | (go_enter Tryz.func147, Tryz.ntmps147
      go_wp2
      go_ret
      exact ⟨ret_b (by simp [visI] <;> omega), rfl⟩)




end Go.Proofs.YthfknndjdfofgaaGreatDoor.Asc

/-
 Contracts of package ascii's all, Token and Visible.
-/
namespace Go.Proofs.YthfknndjdfofgaaGreatDoor.Asc
open Go.RowKit Go.Proofs.YthfknndjdfofgaaGreatDoor.Wd

theorem allS_nil (p : Int → Bool) (s : ByteArray) (pos : Nat) (h : ¬ pos < s.size) (hle : pos ≤ s.size) (ht : ((bs s).take pos).all (fun c => p (c.toNat : Int)) = true) :
   (!s.toList.isEmpty) = allS p (bs s) := by
 have e : (bs s).take pos = bs s := List.take_of_length_le (by rw [bs_length]; omega)
 rw [e] at ht
 rw [allS, ht, Bool.and_true]
 rw [Lib.toList_data]
 rfl

theorem allS_no (p : Int → Bool) (s : ByteArray) (pos : Nat) (h : pos < s.size) (hc : p ((s[pos]'h).toNat : Int) = false) : allS p (bs s) = false := by
 rw [allS, Bool.and_eq_false_iff]
 right
 rw [List.all_eq_false]
 exact ⟨s[pos]'h, List.getElem_mem (by rw [bs_length]; exact h), by rw [hc]; simp⟩

theorem take_all (p : Int → Bool) (s : ByteArray) (pos : Nat) (h : pos < s.size) (ht : ((bs s).take pos).all (fun c => p (c.toNat : Int)) = true) (hc : p ((s[pos]'h).toNat : Int) = true) :
   ((bs s).take (pos + 1)).all (fun c => p (c.toNat : Int)) = true := by
 rw [bs_take s pos h, List.all_append, ht]
 simpa using hc

def AllIn (p : Int → Bool) (s : ByteArray) (w w' : World) : Prop := ∃ pos, w' = w.iter s pos ∧ pos ≤ s.size ∧ ((bs s).take pos).all (fun c => p (c.toNat : Int)) = true


set_option maxHeartbeats 1000000 in
theorem all_vis (s : ByteArray) (w : World) :
   Calls Tryz.prog 146 #[.string s, .func (.func 147) #[] #[]] w fun e w' => e = .returned (.bool (allS visI (bs s))) ∧ Below w.heap.size w w' := by
 go_enter Tryz.func146, Tryz.ntmps146
 go_wp2
 go_loopw [6] (fun _ w' => AllIn visI s w w') (fun _ w' => s.size - w'.iterPos w.heap.size)
 case atStart => exact ⟨0, rfl, Nat.zero_le _, rfl⟩
 case round =>
   obtain ⟨pos, rfl, hle, ht⟩ := hrel
   have HT := Lib.hid ht
   clear ht
   by_cases hp : pos < s.size
   · obtain ⟨hr, h1⟩ := at_rune vis_low s pos hp
     have hnx : ∀ ty, (Instr.next (.pointer (some ⟨w.heap.size, 0, none⟩)) true ty).run Tryz.prog (w.iter s pos) = _ := fun ty => run_next_any w s pos ty hp
     cases hc : visI ((s[pos]'hp).toNat : Int)
     · have HC := Lib.hid hc
       rw [hc] at hr
       have HR := Lib.hid hr
       clear hr hc h1
       go_wp2_with (go_at_call 147; refine (isVisible_any _ _).mono ?_; rintro e w' ⟨rfl, rfl⟩; rw [HR.out])
       go_ret
       exact ⟨ret_b (allS_no visI s pos hp HC.out).symm, below_iter _ _ _⟩
     · have h1' := h1 hc
       rw [h1'] at hnx
       have HC := Lib.hid hc
       rw [hc] at hr
       have HR := Lib.hid hr
       clear hr hc h1 h1'
       go_wp2_with (go_at_call 147; refine (isVisible_any _ _).mono ?_; rintro e w' ⟨rfl, rfl⟩; rw [HR.out])
       go_roundw
       case rel => exact ⟨pos + 1, rfl, hp, take_all visI s pos hp HT.out HC.out⟩
       case measure => simp; omega
   · have hnx := fun ty => run_next_end (P := Tryz.prog) w s pos ty hp
     go_wp2
     go_ret
     exact ⟨ret_b (allS_nil visI s pos hp hle HT.out), below_iter _ _ _⟩

theorem visible_any (s : ByteArray) (w : World) :
   Calls Tryz.prog 98 #[.string s] w fun e w' => e = .returned (.bool (allS visI (bs s))) ∧ Below w.heap.size w w' := by
 go_enter Tryz.func98, Tryz.ntmps98
 go_wp2_with (go_at_call 146; refine (all_vis _ _).mono ?_; rintro e w' ⟨rfl, hb⟩)
 go_ret
 exact ⟨rfl, hb⟩
end Go.Proofs.YthfknndjdfofgaaGreatDoor.Asc

/-
 Contracts of package exts' Name, Protocols and Versions over this seat's translation.
-/
namespace Go.Proofs.YthfknndjdfofgaaGreatDoor.Ex
open Go.RowKit Go.Proofs.YthfknndjdfofgaaGreatDoor.Wd Go.Proofs.YthfknndjdfofgaaGreatDoor.Be Go.Proofs.YthfknndjdfofgaaGreatDoor.He Go.Proofs.YthfknndjdfofgaaGreatDoor.Ro

theorem bs_str8 (x : List UInt8) : Asc.bs (str8 x) = x := by simp [Asc.bs, str8]

set_option maxHeartbeats 400000 in
theorem may_any (x : List UInt8) (w : World) : Calls Tryz.prog 55 #[.string (str8 x)] w fun e w' => e = .returned (.bool (mayS x)) ∧ Below w.heap.size w w' := by
 have HM := Lib.hid (show mayS x = (decide (x.length ≤ 255) && Asc.allS Asc.visI x) from rfl)
 have hsz : (str8 x).size = x.length := rfl
 have HB := Lib.hid (bs_str8 x)
 generalize str8 x = s at *
 by_cases h : x.length ≤ 255
 · have hd : (s.size : Int) ≤ 255 := by omega
   have HD := Lib.hid (show decide (x.length ≤ 255) = true by simpa using h)
   clear h
   go_enter Tryz.func55, Tryz.ntmps55
   go_wp2_with fail
   refine (Asc.visible_any s w).mono ?_
   rintro e w1 ⟨rfl, hb⟩
   go_wp2_with fail
   go_ret
   rw [HM.out, HD.out, HB.out]
   exact ⟨rfl, hb⟩
 · have hd : ¬ (s.size : Int) ≤ 255 := by omega
   have HD := Lib.hid (show decide (x.length ≤ 255) = false by simpa using h)
   clear h
   go_enter Tryz.func55, Tryz.ntmps55
   go_wp2_with fail
   go_ret
   rw [HM.out, HD.out]
   exact ⟨rfl, Below.refl _ _⟩

theorem SrcE.only {α : Type} {e : El α} {w w' : World} {A : Option Addr} {l : List α} (h : SrcE w e A l) (hb : Below w.heap.size w w') : SrcE w' e A l := h.below hb

set_option maxRecDepth 100000 in
set_option maxHeartbeats 1000000 in
theorem name_any (A : Option Addr) (n c : Nat) (xs : List UInt8) (w : World) (hs : Src w A n xs) (hn : n ≤ 140737488355320) :
   Calls Tryz.prog 125 #[.slice A n c] w fun e w' => e = .returned (.tuple #[.string (str8 (nameS xs).1), .int .i64 (nameS xs).2]) ∧ Below w.heap.size w w' := by
 have HR := Lib.hid (show nameS xs = if (readS typO 2 xs).2 then nameL ((readS typO 2 xs).1.filter hostB) else ([], 3) from rfl)
 go_enter Tryz.func125, Tryz.ntmps125
 go_wp2_with fail
 refine (rdT_any A n c 2 xs w hs hn (.inr rfl)).mono ?_
 rintro e w1 ⟨v, rfl, hOw, hl, hb⟩
 have HO := Lib.hid hOw
 clear hOw hs
 generalize readS typO 2 xs = p at *
 obtain ⟨l, b⟩ := p
 simp only at HR HO hl
 cases b with
 | false =>
   have HE := Lib.hid (show nameS xs = ([], 3) by rw [HR.out]; rfl)
   go_wp2_with fail
   go_ret2
   rw [HE.out]
   exact ⟨rfl, hb⟩
 | true =>
   have HE := Lib.hid (show nameS xs = nameL (l.filter hostB) by rw [HR.out]; rfl)
   clear HR
   have HGe := Lib.hid (OwnE.ge HO.out)
   go_wp2_with fail
   refine (del_any v w.heap.size l w1 HO.out hl).mono ?_
   rintro e w2 ⟨A2, c2, rfl, hsrc, hg⟩
   have HS := Lib.hid hsrc
   have HB2 := Lib.hid (hb.grown hg hb.size (fun j hj => HGe.out j hj))
   clear hsrc hg hb HO HGe
   generalize l.filter hostB = m at *
   rcases m with _ | ⟨x, _ | ⟨y, m⟩⟩
   · have HF := Lib.hid (show nameS xs = ([], 8) from HE.out)
     go_wp2_with fail
     go_ret2
     rw [HF.out]
     exact ⟨rfl, HB2.out⟩
   · obtain ⟨g, o, rfl, hg, hc⟩ := HS.out 0 x rfl
     have hc1 : w2.cell? ⟨g, o + 1, none⟩ = some (.string (str8 x.2)) := by have := hc 1 _ rfl; rwa [Nat.zero_mul, Nat.zero_add] at this
     have HL := Lib.hid (show nameL [x] = if mayS x.2 then (x.2, 0) else ([], 9) from rfl)
     clear hc HS
     go_wp2_with fail
     refine (may_any x.2 w2).mono ?_
     rintro e w3 ⟨rfl, hb3⟩
     have hd1 : w3.cell? ⟨g, o + 1, none⟩ = some (.string (str8 x.2)) := (hb3.cell (p := ⟨g, _, none⟩) hg).trans hc1
     have HB3 := Lib.hid (HB2.out.trans (hb3.mono HB2.out.size))
     clear hc1 hb3 HB2
     obtain ⟨b, hb⟩ : ∃ b, mayS x.2 = b := ⟨_, rfl⟩
     rw [hb] at HL ⊢
     clear hb
     cases b with
     | true =>
       have HF := Lib.hid (show nameS xs = (x.2, 0) by rw [HE.out, HL.out]; rfl)
       go_wp2_with fail
       go_ret2
       rw [HF.out]
       exact ⟨rfl, HB3.out⟩
     | false =>
       have HF := Lib.hid (show nameS xs = ([], 9) by rw [HE.out, HL.out]; rfl)
       go_wp2_with fail
       go_ret2
       rw [HF.out]
       exact ⟨rfl, HB3.out⟩
   · have HF := Lib.hid (show nameS xs = ([], 7) from HE.out)
     have h1 : (1 : Int) < (((x :: y :: m).length : Nat) : Int) := by simp; omega
     generalize (x :: y :: m).length = q at *
     go_wp2_with fail
     go_ret2
     rw [HF.out]
     exact ⟨rfl, HB2.out⟩

set_option maxRecDepth 100000 in
set_option maxHeartbeats 1000000 in
theorem vers_any (A : Option Addr) (n c : Nat) (xs : List UInt8) (w : World) (hs : Src w A n xs) (hn : n ≤ 140737488355320) :
   Calls Tryz.prog 129 #[.slice A n c] w fun e w' => ∃ v, e = .returned (.tuple #[v, .int .i64 (verS xs).2]) ∧ OwnE w' elI w.heap.size v (verS xs).1 ∧ (verS xs).1.length ≤ 65535 ∧ Below w.heap.size w w' := by
 have HR := Lib.hid (show verS xs = if (readS verO 1 xs).2 then ((readS verO 1 xs).1, 0) else ([], 3) from rfl)
 go_enter Tryz.func129, Tryz.ntmps129
 go_wp2_with fail
 refine (rdI_any A n c 1 xs w hs hn (.inl rfl)).mono ?_
 rintro e w1 ⟨v, rfl, hOw, hl, hb⟩
 have HO := Lib.hid hOw
 clear hOw hs
 generalize readS verO 1 xs = p at *
 obtain ⟨l, b⟩ := p
 simp only at HR HO hl
 cases b with
 | false =>
   have HE := Lib.hid (show verS xs = ([], 3) by rw [HR.out]; rfl)
   go_wp2_with fail
   go_ret2
   rw [HE.out]
   exact ⟨_, rfl, OwnE.nil _ _ _, Nat.zero_le _, hb⟩
 | true =>
   have HE := Lib.hid (show verS xs = (l, 0) by rw [HR.out]; rfl)
   go_wp2_with fail
   go_ret2
   rw [HE.out]
   exact ⟨_, rfl, HO.out, hl, hb⟩

set_option maxRecDepth 100000 in
set_option maxHeartbeats 1000000 in
theorem index_any (A : Option Addr) (n c : Nat) (l : List (List UInt8)) (w : World) (hs : SrcE w elS A l) (hn : l.length = n) (hm : n ≤ 65535) :
   Calls Tryz.prog 196 #[.slice A n c, .string .empty] w fun e w' => ∃ i : Int, e = .returned (.int .i64 i) ∧ Hid (0 ≤ i ↔ [] ∈ l) ∧ Hid (Below w.heap.size w w') := by
 have HS := Lib.hid hs
 have HN := Lib.hid hn
 clear hs hn
 go_enter Tryz.func196, Tryz.ntmps196
 go_wp2_with fail
 go_loopw [8] (fun i wr => ∃ k, k ≤ n ∧ i = .int .i64 (k : Int) ∧ Hid (∀ x ∈ l.take k, x ≠ []) ∧ Hid (Below w.heap.size w wr)) (fun i _ => n - (intOf i).toNat)
 case atStart => exact ⟨0, Nat.zero_le _, rfl, Lib.hid (by simp), Lib.hid (Below.refl _ _)⟩
 case round =>
   obtain ⟨k, hk, rfl, HA, HB⟩ := hrel
   by_cases hlt : k < n
   · have hki : (k : Int) < (n : Int) := by omega
     obtain ⟨x, hx⟩ : ∃ x, l[k]? = some x := ⟨_, List.getElem?_eq_getElem (by have := HN.out; omega)⟩
     obtain ⟨g, o, hA, hg, hc⟩ := HS.out k x hx
     have hc0 : wr.cell? ⟨g, o + k, none⟩ = some (.string (str8 x)) := (HB.out.cell (p := ⟨g, _, none⟩) hg).trans (by have := hc 0 _ rfl; simpa [elS] using this)
     rw [hA]
     have HX := Lib.hid hx
     clear hA hc hx
     by_cases h0 : x = []
     · have he : (str8 x).toList.isEmpty = true := by rw [h0, Lib.toList_data]; rfl
       have HC := Lib.hid (show [] ∈ l by rw [← h0]; exact List.mem_of_getElem? HX.out)
       clear h0
       go_wp2_with fail
       go_ret
       exact ⟨(k : Int), rfl, ⟨fun _ => HC.out, fun _ => by omega⟩, HB.out⟩
     · have he : (str8 x).toList.isEmpty = false := by
         rw [Lib.toList_data]
         cases x with
         | nil => exact absurd rfl h0
         | cons a x => rfl
       have H0 := Lib.hid h0
       clear h0
       go_wp2_with fail
       go_roundw
       case rel => exact ⟨k + 1, by omega, by go_num, Lib.hid (fun y hy => by
         rw [List.take_add_one, HX.out] at hy
         rcases List.mem_append.1 hy with hy | hy
         · exact HA.out y hy
         · simp at hy; subst hy; exact H0.out), HB⟩
       case measure => simp [intOf]; omega
   · obtain rfl : k = n := by omega
     have HC := Lib.hid (show ¬ [] ∈ l from fun hcn => HA.out [] (by rw [← HN.out, List.take_length]; exact hcn) rfl)
     go_wp2_with fail
     go_ret
     exact ⟨-1, rfl, ⟨fun h => by omega, fun h => absurd h HC.out⟩, HB.out⟩

set_option maxRecDepth 100000 in
set_option maxHeartbeats 1000000 in
theorem contains_any (A : Option Addr) (n c : Nat) (l : List (List UInt8)) (w : World) (hs : SrcE w elS A l) (hn : l.length = n) (hm : n ≤ 65535) :
   Calls Tryz.prog 175 #[.slice A n c, .string .empty] w fun e w' => e = .returned (.bool (l.contains [])) ∧ Hid (Below w.heap.size w w') := by
 go_enter Tryz.func175, Tryz.ntmps175
 go_wp2_with fail
 refine (index_any A n c l w hs hn hm).mono ?_
 rintro e w1 ⟨i, rfl, hi, hb⟩
 by_cases h : 0 ≤ i
 · have HC := Lib.hid (show l.contains [] = true by rw [List.contains_iff_mem]; exact hi.out.1 h)
   go_wp2_with fail
   go_ret
   rw [HC.out]
   exact ⟨rfl, hb⟩
 · have HC := Lib.hid (show l.contains [] = false by rw [Bool.eq_false_iff, Ne, List.contains_iff_mem]; exact fun hm => h (hi.out.2 hm))
   have hd : decide (0 ≤ i) = false := decide_eq_false h
   go_wp2_with fail
   go_ret
   rw [HC.out]
   exact ⟨rfl, hb⟩

set_option maxRecDepth 100000 in
set_option maxHeartbeats 1000000 in
theorem protos_any (A : Option Addr) (n c : Nat) (xs : List UInt8) (w : World) (hs : Src w A n xs) (hn : n ≤ 140737488355320) :
   Calls Tryz.prog 127 #[.slice A n c] w fun e w' => ∃ v, e = .returned (.tuple #[v, .int .i64 (protoS xs).2]) ∧ OwnE w' elS w.heap.size v (protoS xs).1 ∧ (protoS xs).1.length ≤ 65535 ∧ Below w.heap.size w w' := by
 have HR := Lib.hid (show protoS xs = if (readS proO 2 xs).2 && !(readS proO 2 xs).1.contains [] then ((readS proO 2 xs).1, 0) else ([], 3) from rfl)
 go_enter Tryz.func127, Tryz.ntmps127
 go_wp2_with fail
 refine (rdS_any A n c 2 xs w hs hn (.inr rfl)).mono ?_
 rintro e w1 ⟨v, rfl, hOw, hl, hb⟩
 have HO := Lib.hid hOw
 clear hs
 generalize readS proO 2 xs = p at *
 obtain ⟨l, b⟩ := p
 simp only at HR HO hl hOw
 obtain ⟨A2, c2, rfl, _, _, hsrc⟩ := hOw.src fineS
 have HS := Lib.hid hsrc
 clear hsrc hOw
 cases b with
 | false =>
   have HE := Lib.hid (show protoS xs = ([], 3) by rw [HR.out]; rfl)
   go_wp2_with fail
   go_ret2
   rw [HE.out]
   exact ⟨_, rfl, OwnE.nil _ _ _, Nat.zero_le _, hb⟩
 | true =>
   obtain ⟨m, hm⟩ : ∃ m, l.length = m := ⟨_, rfl⟩
   rw [hm] at hl ⊢
   have HM := Lib.hid hm
   clear hm
   go_wp2_with fail
   refine (contains_any A2 m c2 l w1 HS.out HM.out hl).mono ?_
   rintro e w2 ⟨rfl, hb2⟩
   have HO2 := Lib.hid (show OwnE w2 elS w.heap.size (.slice A2 m c2) l by have := HO.out.below hb2.out; rwa [HM.out] at this)
   have HB2 := Lib.hid (hb.trans (hb2.out.mono hb.size))
   obtain ⟨q, hq⟩ : ∃ q, l.contains [] = q := ⟨_, rfl⟩
   rw [hq] at HR ⊢
   clear hq hb2 hb HO HS
   cases q with
   | true =>
     have HE := Lib.hid (show protoS xs = ([], 3) by rw [HR.out]; rfl)
     go_wp2_with fail
     go_ret2
     rw [HE.out]
     exact ⟨_, rfl, OwnE.nil _ _ _, Nat.zero_le _, HB2.out⟩
   | false =>
     have HE := Lib.hid (show protoS xs = (l, 0) by rw [HR.out]; rfl)
     go_wp2_with fail
     go_ret2
     rw [HE.out]
     exact ⟨_, rfl, HO2.out, by show l.length ≤ _; rw [HM.out]; exact hl, HB2.out⟩
end Go.Proofs.YthfknndjdfofgaaGreatDoor.Ex

/-
 Contracts of package exts' layers of one item over this seat's translation: layName, layProtocol, layVersion; be.Vec, whatever comes of it.
-/
namespace Go.Proofs.YthfknndjdfofgaaGreatDoor.Ex
open Go.RowKit Go.Proofs.YthfknndjdfofgaaGreatDoor.Wd Go.Proofs.YthfknndjdfofgaaGreatDoor.Be Go.Proofs.YthfknndjdfofgaaGreatDoor.He Go.Proofs.YthfknndjdfofgaaGreatDoor.Ro

def ItemP (p : Option (List UInt8)) (w : World) (e : Ending) (w' : World) : Prop :=
 ∃ A n c, e = .returned (.tuple #[.slice A n c, .bool p.isSome]) ∧ Src w' A n (p.getD []) ∧ n ≤ c ∧ Below w.heap.size w w'
theorem src_blk {w : World} {g : Nat} {t : TypeId} {xs : List UInt8} (h : Blk w g t (cellsOf xs).toArray) : Src w (some ⟨g, 0, none⟩) xs.length xs :=
 Src.of_blk h (fun j c hj => by simpa using cellsOf_get hj)
def vecP (xs : List UInt8) (k : Nat) (ys : List UInt8) : Option (List UInt8) := if ys.length < 256 ^ k then some (xs ++ vecB k ys) else none
def VecP (xs : List UInt8) (p : Option (List UInt8)) (w : World) (e : Ending) (w' : World) : Prop :=
 ∃ A n c, e = .returned (.tuple #[.slice A n c, .bool p.isSome]) ∧ Src w' A n (p.getD xs) ∧ n ≤ c ∧ Below w.heap.size w w'
theorem bvec_any (A : Option Addr) (n c k : Nat) (B : Option Addr) (m d : Nat) (size : Int) (xs ys : List UInt8) (w : World) (hs : Src w A n xs) (ht : Src w B m ys) (hn : n ≤ 100000) (hm : m ≤ 9223372036854775807) (hk : clampI size = k) (hk2 : k ≤ 2) :
   Calls Tryz.prog 54 #[.slice A n c, .int .i64 size, .slice B m d] w (VecP xs (vecP xs k ys) w) := by
 have hp : 256 ^ k ≤ 65536 := Nat.pow_le_pow_right (n := 256) (by omega) hk2
 have hpi : ((256 ^ k : Nat) : Int) = 256 ^ k := by rw [Int.natCast_pow]; rfl
 by_cases h : ys.length < 256 ^ k
 · have hlt : m < 256 ^ k := by rw [← ht.1]; exact h
   refine (vec_yes A n c k B m d size xs ys w hs ht (by omega) hk (by omega)).mono ?_
   rintro e w' ⟨rfl, hb, hbel⟩
   have hv : vecP xs k ys = some (xs ++ vecB k ys) := if_pos h
   rw [hv]
   have hsrc := src_blk hb
   have e1 : xs ++ bytesOf (m : Int) k ++ ys = xs ++ vecB k ys := by rw [vecB, ht.1, List.append_assoc]
   have e2 : (xs ++ vecB k ys).length = n + (k + m) := by rw [List.length_append, vecB_len, hs.1, ht.1]
   rw [e1, e2] at hsrc
   exact ⟨_, _, _, rfl, hsrc, Nat.le_refl _, hbel⟩
 · have hlt : ¬ m < 256 ^ k := by rw [← ht.1]; exact h
   refine (vec_no A n c k B m d size xs w hs (by omega) hk (by omega) (by omega)).mono ?_
   rintro e w' ⟨rfl, hb, hbel⟩
   have hv : vecP xs k ys = none := if_neg h
   rw [hv]
   have hsrc := src_blk hb
   rw [hs.1] at hsrc
   exact ⟨_, _, _, rfl, hsrc, Nat.le_refl _, hbel⟩

theorem bytes_str8 (x : List UInt8) (w : World) : ∃ c w', (convert 9 22 (.string (str8 x))).run Tryz.prog w = .ok (.slice (some ⟨w.heap.size, 0, none⟩) x.length c) w' ∧ Src w' (some ⟨w.heap.size, 0, none⟩) x.length x ∧ Below w.heap.size w w' ∧ w'.heap.size = w.heap.size + 1 ∧ x.length ≤ c := by
 refine ⟨_, _, run_bytes_of_string (P := Tryz.prog) w 9 22 5 (str8 x) Tryz.underlying9 Tryz.underlying22 Tryz.underlying5, ⟨rfl, fun _ => ⟨_, rfl, ?_, fun j c hj => ?_⟩⟩, ?_, ?_, grownCap_ge _ _ _ _⟩
 · show w.heap.size < (w.heap.push _).size
   simp
 · have hj' : (str8 x).data[j]? = some c := by rw [← Array.getElem?_toList]; simpa [str8] using hj
   have hlt := (Array.getElem?_eq_some_iff.1 hj').1
   rw [add_none, Nat.zero_add]
   refine (World.cell?_alloc_mark w.drew _ _ _ j).trans ?_
   rw [bytesRow_at (str8 x) _ j hlt, (Array.getElem?_eq_some_iff.1 hj').2]
   rfl
 · exact (Below.refl _ _).drew.alloc (Nat.le_refl _) _
 · show (w.heap.push _).size = _
   simp


set_option maxRecDepth 100000 in
set_option maxHeartbeats 400000 in
theorem lpro_any (x : List UInt8) (w : World) (hx : x.length ≤ 9223372036854775807) : Calls Tryz.prog 31 #[.string (str8 x)] w (ItemP (putP x) w) := by
 by_cases h0 : x = []
 · have HP := Lib.hid (show putP x = none from if_pos h0)
   have he : (str8 x).toList.isEmpty = true := by rw [h0, Lib.toList_data]; rfl
   clear h0
   go_enter Tryz.func31, Tryz.ntmps31
   go_wp2_with fail
   go_ret2
   rw [HP.out]
   exact ⟨none, 0, 0, rfl, Src.nil _, Nat.le_refl _, Below.refl _ _⟩
 · have HP := Lib.hid (show putP x = vecP [] 1 x by rw [putP, if_neg h0]; rfl)
   have he : (str8 x).toList.isEmpty = false := by
     rw [Lib.toList_data]
     cases x with
     | nil => exact absurd rfl h0
     | cons a x => rfl
   clear h0
   obtain ⟨c, w1, hcv, hs1, hb1, hsz, _⟩ := bytes_str8 x w
   have HS := Lib.hid hs1
   clear hs1
   go_enter Tryz.func31, Tryz.ntmps31
   go_wp2_with fail
   refine (bvec_any none 0 0 1 _ _ _ 1 [] x w1 (Src.nil _) HS.out (by omega) hx (by decide) (by omega)).mono ?_
   rintro e w2 ⟨A, n, c2, rfl, hs2, hnc, hb2⟩
   have HB := Lib.hid (hb1.trans (hb2.mono (by omega)))
   have HS2 := Lib.hid hs2
   clear hs2 hb2 hb1 hcv
   rw [← HP.out] at HS2 ⊢
   go_wp2_with fail
   go_ret2
   exact ⟨A, n, c2, rfl, HS2.out, hnc, HB.out⟩

theorem may_len {x : List UInt8} (h : mayS x = true) : x.length ≤ 255 := by
 unfold mayS at h
 rw [Bool.and_eq_true] at h
 exact of_decide_eq_true h.1
set_option maxRecDepth 100000 in
set_option maxHeartbeats 400000 in
theorem lnam_any (x : List UInt8) (w : World) : Calls Tryz.prog 30 #[.string (str8 x)] w (ItemP (putN x) w) := by
 go_enter Tryz.func30, Tryz.ntmps30
 go_wp2_with fail
 refine (may_any x w).mono ?_
 rintro e w1 ⟨rfl, hb1⟩
 obtain ⟨b, hb⟩ : ∃ b, mayS x = b := ⟨_, rfl⟩
 rw [hb]
 cases b with
 | false =>
   have HP := Lib.hid (show putN x = none by rw [putN, hb]; rfl)
   clear hb
   go_wp2_with fail
   go_ret2
   rw [HP.out]
   exact ⟨none, 0, 0, rfl, Src.nil _, Nat.le_refl _, hb1⟩
 | true =>
   have hx := may_len hb
   have hv : vecP [0] 2 x = some ([0] ++ vecB 2 x) := if_pos (by have : (256 : Nat) ^ 2 = 65536 := rfl; omega)
   have HP := Lib.hid (show putN x = vecP [0] 2 x by rw [hv, putN, hb]; rfl)
   have HV := Lib.hid hv
   clear hv
   clear hb
   go_wp2_with fail
   refine (put_any none 0 0 1 0 1 [] w1 (Src.nil w1) (by omega) (by decide)).mono ?_
   rintro e w2 ⟨rfl, hb, hbel⟩
   have hsrc := src_blk hb
   rw [List.nil_append, bytesOf_length] at hsrc
   have h0 : bytesOf 0 1 = [0] := by decide
   rw [h0] at hsrc
   have HB2 := Lib.hid (hb1.trans (hbel.mono hb1.size))
   obtain ⟨c, w3, hcv, hs3, hb3, hsz, _⟩ := bytes_str8 x w2
   have HS := Lib.hid hs3
   have HS0 := Lib.hid (hsrc.below hb3)
   have HB3 := Lib.hid (HB2.out.trans (hb3.mono HB2.out.size))
   clear hb hsrc hs3 hb1 hbel hb3 h0 HB2
   go_wp2_with fail
   refine (bvec_any _ _ _ 2 _ _ _ 2 [0] x w3 HS0.out HS.out (by omega) (by omega) (by decide) (by omega)).mono ?_
   rintro e w4 ⟨A, n, c2, rfl, hs4, hnc, hb4⟩
   have HB := Lib.hid (HB3.out.trans (hb4.mono HB3.out.size))
   have HS4 := Lib.hid (show Src w4 A n ((putN x).getD []) by rw [HP.out]; rw [HV.out] at hs4 ⊢; exact hs4)
   rw [← HP.out]
   clear hs4 hb4 hcv
   go_wp2_with fail
   go_ret2
   exact ⟨A, n, c2, rfl, HS4.out, hnc, HB.out⟩

theorem putN_len {x a : List UInt8} (h : putN x = some a) : a.length ≤ 65550 := by
 unfold putN at h
 split at h
 · rename_i hm
   injection h with h
   have := may_len hm
   rw [← h, List.length_cons, vecB_len]; omega
 · cases h
theorem putP_len {x a : List UInt8} (h : putP x = some a) : a.length ≤ 65550 := by
 unfold putP at h
 split at h
 · cases h
 · split at h
   · injection h with h
     rw [← h, vecB_len]; omega
   · cases h
theorem Own.grown_by {w w' : World} {B : Nat} {v : Value} {xs : List UInt8} (h : Own w B v xs) (hb : Below w.heap.size w w') : Own w' B v xs := by
 obtain ⟨hl, h0 | ⟨g, cap, cur, hv, hg, hh, r⟩⟩ := h
 · exact ⟨hl, .inl h0⟩
 · exact ⟨hl, .inr ⟨g, cap, cur, hv, hg, Blk.below (t := 5) (cs := cur) hh hb (Blk.lt (t := 5) (cs := cur) hh), r⟩⟩
end Go.Proofs.YthfknndjdfofgaaGreatDoor.Ex

/-
 Contract of package exts' lay over this seat's translation, with hagioscope/exts.layProtocol.
-/
namespace Go.Proofs.YthfknndjdfofgaaGreatDoor.Ex
open Go.RowKit Go.Proofs.YthfknndjdfofgaaGreatDoor.Wd Go.Proofs.YthfknndjdfofgaaGreatDoor.Be Go.Proofs.YthfknndjdfofgaaGreatDoor.He Go.Proofs.YthfknndjdfofgaaGreatDoor.Ro

structure lyPAt (w : World) (l : List (List UInt8)) (k : Nat) (v : Value) (ws : List UInt8) (wr : World) : Prop where
 own : Own wr w.heap.size v ws
 cat : catO putP (l.take k) = some ws
 len : ws.length ≤ 140000
 bel : Below w.heap.size w wr

set_option maxRecDepth 100000 in
set_option maxHeartbeats 1000000 in
theorem lyP_any (A : Option Addr) (n c j : Nat) (size : Int) (l : List (List UInt8)) (w : World) (hs : SrcE w elS A l) (hl : l.length = n) (hn : n ≤ 9223372036854775807) (hok : ∀ x ∈ l, x.length ≤ 9223372036854775807) (hj : clampI size = j) (hj2 : j ≤ 2) :
   Calls Tryz.prog 29 #[.slice A n c, .int .i64 size, .func (.func 31) #[] #[]] w (ItemP (layS putP j l) w) := by
 have HS := Lib.hid hs
 have HN := Lib.hid hl
 have HK := Lib.hid hok
 clear hs hl hok
 go_enter Tryz.func29, Tryz.ntmps29
 go_wp2_with fail
 go_loopw [8, 15] (fun v i wr => ∃ k ws, k ≤ n ∧ i = .int .i64 (k : Int) ∧ Hid (lyPAt w l k v ws wr)) (fun _ i _ => n - (intOf i).toNat)
 case atStart => exact ⟨0, [], Nat.zero_le _, rfl, Lib.hid ⟨⟨rfl, .inl ⟨rfl, rfl⟩⟩, rfl, Nat.zero_le _, Below.refl _ _⟩⟩
 case round =>
   obtain ⟨k, ws, hk, rfl, HA⟩ := hrel
   obtain ⟨A2, c2, hv, hc2, hs2⟩ := Own.src HA.out.own
   subst hv
   have hwl := HA.out.len
   by_cases hlt : k < n
   · have hki : (k : Int) < (n : Int) := by omega
     obtain ⟨x, hx⟩ : ∃ x, l[k]? = some x := ⟨_, List.getElem?_eq_getElem (by have := HN.out; omega)⟩
     obtain ⟨g, o, hA, hg, hc⟩ := HS.out k x hx
     have hc0 : wr.cell? ⟨g, o + k, none⟩ = some (.string (str8 x)) := (HA.out.bel.cell (p := ⟨g, _, none⟩) hg).trans (by have := hc 0 _ rfl; simpa [elS] using this)
     rw [hA]
     have HX := Lib.hid hx
     clear hA hc hx
     go_wp2_with fail
     refine (lpro_any x wr (HK.out x (List.mem_of_getElem? HX.out))).mono ?_
     rintro e w1 ⟨A3, n3, c3, rfl, hs3, hnc3, hb3⟩
     have HS3 := Lib.hid hs3
     have HB3 := Lib.hid (HA.out.bel.trans (hb3.mono HA.out.bel.size))
     have HSr := Lib.hid (hs2.below hb3)
     have HO3 := Lib.hid (show Own w1 w.heap.size (.slice A2 ws.length c2) ws from Own.grown_by HA.out.own hb3)
     clear hs3 hb3 hs2 hc0
     generalize hL : ws.length = L at *
     have HL := Lib.hid hL
     clear hL
     obtain ⟨p, hp⟩ : ∃ p, putP x = p := ⟨_, rfl⟩
     rw [hp] at HS3 ⊢
     have HP := Lib.hid hp
     clear hp
     cases p with
     | none =>
       have HE := Lib.hid (show layS putP j l = none from layS_no HX.out HP.out)
       go_wp2_with fail
       go_ret2
       rw [HE.out]
       exact ⟨none, 0, 0, rfl, Src.nil _, Nat.le_refl _, HB3.out⟩
     | some a =>
       have hal : n3 ≤ 65550 := by have h1 := HS3.out.1; have h2 := putP_len HP.out; rw [← h1]; exact h2
       by_cases hbig : 65535 < L
       · have hbi : (65535 : Int) < (L : Int) := by omega
         have HE := Lib.hid (show layS putP j l = none from layS_long HA.out.cat (by have := HL.out; omega) hj2)
         go_wp2_with fail
         go_ret2
         rw [HE.out]
         exact ⟨none, 0, 0, rfl, Src.nil _, Nat.le_refl _, HB3.out⟩
       · have hbi : ¬ (65535 : Int) < (L : Int) := by omega
         have HC := Lib.hid (catO_take HX.out HA.out.cat HP.out)
         have hsz := HB3.out.size
         have HS3' := Lib.hid (show Src w1 A3 n3 a from HS3.out)
         clear HS3
         go_wp2_with (at_builtin; refine wpList_app rfl _ _ _ rfl und8 inf8 w.heap.size (.slice A2 L c2) ws rfl (by exact HO3.out) A3 n3 c3 a rfl (by exact HS3'.out) (by have := HL.out; omega) hsz ?_; intro v4 w4 ho4 hb4)
         have HB4 := Lib.hid (HB3.out.trans hb4)
         go_roundw
         case rel => exact ⟨k + 1, ws ++ a, by omega, by go_num, Lib.hid ⟨ho4.out, HC.out, by have := HL.out; have := HS3'.out.1; rw [List.length_append]; omega, HB4.out⟩⟩
         case measure => simp [intOf]; omega
   · obtain rfl : k = n := by omega
     have HC := Lib.hid (show catO putP l = some ws by have := HA.out.cat; rwa [← HN.out, List.take_length] at this)
     have HE := Lib.hid (layS_end (j := j) HC.out)
     have HB := Lib.hid HA.out.bel
     have HS2 := Lib.hid hs2
     clear hs2 HA
     generalize hL : ws.length = L at *
     have HL := Lib.hid hL
     clear hL
     by_cases h0 : L = 0
     · have hw : ws = [] := List.eq_nil_of_length_eq_zero (by rw [HL.out]; exact h0)
       have HF := Lib.hid (show layS putP j l = none by rw [HE.out, if_pos hw])
       have hb0 : ((L : Int) == 0) = true := by simp [h0]
       clear h0 hw
       go_wp2_with fail
       go_ret2
       rw [HF.out]
       exact ⟨none, 0, 0, rfl, Src.nil _, Nat.le_refl _, HB.out⟩
     · have hw : ¬ ws = [] := fun h => h0 (by rw [← HL.out, h]; rfl)
       have HF := Lib.hid (show layS putP j l = vecP [] j ws by rw [HE.out, if_neg hw, vecP, HL.out]; rfl)
       have hb0 : ((L : Int) == 0) = false := by simp [h0]
       clear h0 hw
       go_wp2_with fail
       refine (bvec_any none 0 0 j A2 L c2 size [] ws wr (Src.nil _) HS2.out (by omega) (by omega) hj hj2).mono ?_
       rintro e w1 ⟨A3, n3, c3, rfl, hs3, hnc3, hb3⟩
       have HB3 := Lib.hid (HB.out.trans (hb3.mono HB.out.size))
       have HS3 := Lib.hid hs3
       clear hs3 hb3
       rw [← HF.out] at HS3 ⊢
       go_wp2_with fail
       go_ret2
       exact ⟨A3, n3, c3, rfl, HS3.out, hnc3, HB3.out⟩
end Go.Proofs.YthfknndjdfofgaaGreatDoor.Ex

/-
 Contract of package exts' lay over this seat's translation, with hagioscope/exts.layName.
-/
namespace Go.Proofs.YthfknndjdfofgaaGreatDoor.Ex
open Go.RowKit Go.Proofs.YthfknndjdfofgaaGreatDoor.Wd Go.Proofs.YthfknndjdfofgaaGreatDoor.Be Go.Proofs.YthfknndjdfofgaaGreatDoor.He Go.Proofs.YthfknndjdfofgaaGreatDoor.Ro

structure lyNAt (w : World) (l : List (List UInt8)) (k : Nat) (v : Value) (ws : List UInt8) (wr : World) : Prop where
 own : Own wr w.heap.size v ws
 cat : catO putN (l.take k) = some ws
 len : ws.length ≤ 140000
 bel : Below w.heap.size w wr

set_option maxRecDepth 100000 in
set_option maxHeartbeats 1000000 in
theorem lyN_any (A : Option Addr) (n c j : Nat) (size : Int) (l : List (List UInt8)) (w : World) (hs : SrcE w elS A l) (hl : l.length = n) (hn : n ≤ 140737488355328) (hj : clampI size = j) (hj2 : j ≤ 2) :
   Calls Tryz.prog 29 #[.slice A n c, .int .i64 size, .func (.func 30) #[] #[]] w (ItemP (layS putN j l) w) := by
 have HS := Lib.hid hs
 have HN := Lib.hid hl
 clear hs hl
 go_enter Tryz.func29, Tryz.ntmps29
 go_wp2_with fail
 go_loopw [8, 15] (fun v i wr => ∃ k ws, k ≤ n ∧ i = .int .i64 (k : Int) ∧ Hid (lyNAt w l k v ws wr)) (fun _ i _ => n - (intOf i).toNat)
 case atStart => exact ⟨0, [], Nat.zero_le _, rfl, Lib.hid ⟨⟨rfl, .inl ⟨rfl, rfl⟩⟩, rfl, Nat.zero_le _, Below.refl _ _⟩⟩
 case round =>
   obtain ⟨k, ws, hk, rfl, HA⟩ := hrel
   obtain ⟨A2, c2, hv, hc2, hs2⟩ := Own.src HA.out.own
   subst hv
   have hwl := HA.out.len
   by_cases hlt : k < n
   · have hki : (k : Int) < (n : Int) := by omega
     obtain ⟨x, hx⟩ : ∃ x, l[k]? = some x := ⟨_, List.getElem?_eq_getElem (by have := HN.out; omega)⟩
     obtain ⟨g, o, hA, hg, hc⟩ := HS.out k x hx
     have hc0 : wr.cell? ⟨g, o + k, none⟩ = some (.string (str8 x)) := (HA.out.bel.cell (p := ⟨g, _, none⟩) hg).trans (by have := hc 0 _ rfl; simpa [elS] using this)
     rw [hA]
     have HX := Lib.hid hx
     clear hA hc hx
     go_wp2_with fail
     refine (lnam_any x wr).mono ?_
     rintro e w1 ⟨A3, n3, c3, rfl, hs3, hnc3, hb3⟩
     have HS3 := Lib.hid hs3
     have HB3 := Lib.hid (HA.out.bel.trans (hb3.mono HA.out.bel.size))
     have HSr := Lib.hid (hs2.below hb3)
     have HO3 := Lib.hid (show Own w1 w.heap.size (.slice A2 ws.length c2) ws from Own.grown_by HA.out.own hb3)
     clear hs3 hb3 hs2 hc0
     generalize hL : ws.length = L at *
     have HL := Lib.hid hL
     clear hL
     obtain ⟨p, hp⟩ : ∃ p, putN x = p := ⟨_, rfl⟩
     rw [hp] at HS3 ⊢
     have HP := Lib.hid hp
     clear hp
     cases p with
     | none =>
       have HE := Lib.hid (show layS putN j l = none from layS_no HX.out HP.out)
       go_wp2_with fail
       go_ret2
       rw [HE.out]
       exact ⟨none, 0, 0, rfl, Src.nil _, Nat.le_refl _, HB3.out⟩
     | some a =>
       have hal : n3 ≤ 65550 := by have h1 := HS3.out.1; have h2 := putN_len HP.out; rw [← h1]; exact h2
       by_cases hbig : 65535 < L
       · have hbi : (65535 : Int) < (L : Int) := by omega
         have HE := Lib.hid (show layS putN j l = none from layS_long HA.out.cat (by have := HL.out; omega) hj2)
         go_wp2_with fail
         go_ret2
         rw [HE.out]
         exact ⟨none, 0, 0, rfl, Src.nil _, Nat.le_refl _, HB3.out⟩
       · have hbi : ¬ (65535 : Int) < (L : Int) := by omega
         have HC := Lib.hid (catO_take HX.out HA.out.cat HP.out)
         have hsz := HB3.out.size
         have HS3' := Lib.hid (show Src w1 A3 n3 a from HS3.out)
         clear HS3
         go_wp2_with (at_builtin; refine wpList_app rfl _ _ _ rfl und8 inf8 w.heap.size (.slice A2 L c2) ws rfl (by exact HO3.out) A3 n3 c3 a rfl (by exact HS3'.out) (by have := HL.out; omega) hsz ?_; intro v4 w4 ho4 hb4)
         have HB4 := Lib.hid (HB3.out.trans hb4)
         go_roundw
         case rel => exact ⟨k + 1, ws ++ a, by omega, by go_num, Lib.hid ⟨ho4.out, HC.out, by have := HL.out; have := HS3'.out.1; rw [List.length_append]; omega, HB4.out⟩⟩
         case measure => simp [intOf]; omega
   · obtain rfl : k = n := by omega
     have HC := Lib.hid (show catO putN l = some ws by have := HA.out.cat; rwa [← HN.out, List.take_length] at this)
     have HE := Lib.hid (layS_end (j := j) HC.out)
     have HB := Lib.hid HA.out.bel
     have HS2 := Lib.hid hs2
     clear hs2 HA
     generalize hL : ws.length = L at *
     have HL := Lib.hid hL
     clear hL
     by_cases h0 : L = 0
     · have hw : ws = [] := List.eq_nil_of_length_eq_zero (by rw [HL.out]; exact h0)
       have HF := Lib.hid (show layS putN j l = none by rw [HE.out, if_pos hw])
       have hb0 : ((L : Int) == 0) = true := by simp [h0]
       clear h0 hw
       go_wp2_with fail
       go_ret2
       rw [HF.out]
       exact ⟨none, 0, 0, rfl, Src.nil _, Nat.le_refl _, HB.out⟩
     · have hw : ¬ ws = [] := fun h => h0 (by rw [← HL.out, h]; rfl)
       have HF := Lib.hid (show layS putN j l = vecP [] j ws by rw [HE.out, if_neg hw, vecP, HL.out]; rfl)
       have hb0 : ((L : Int) == 0) = false := by simp [h0]
       clear h0 hw
       go_wp2_with fail
       refine (bvec_any none 0 0 j A2 L c2 size [] ws wr (Src.nil _) HS2.out (by omega) (by omega) hj hj2).mono ?_
       rintro e w1 ⟨A3, n3, c3, rfl, hs3, hnc3, hb3⟩
       have HB3 := Lib.hid (HB.out.trans (hb3.mono HB.out.size))
       have HS3 := Lib.hid hs3
       clear hs3 hb3
       rw [← HF.out] at HS3 ⊢
       go_wp2_with fail
       go_ret2
       exact ⟨A3, n3, c3, rfl, HS3.out, hnc3, HB3.out⟩
end Go.Proofs.YthfknndjdfofgaaGreatDoor.Ex

/-
 Contract of package exts' lay over this seat's translation, with hagioscope/exts.layVersion.
-/
namespace Go.Proofs.YthfknndjdfofgaaGreatDoor.Ex
open Go.RowKit Go.Proofs.YthfknndjdfofgaaGreatDoor.Wd Go.Proofs.YthfknndjdfofgaaGreatDoor.Be Go.Proofs.YthfknndjdfofgaaGreatDoor.He Go.Proofs.YthfknndjdfofgaaGreatDoor.Ro

structure lyVAt (w : World) (l : List (Int)) (k : Nat) (v : Value) (ws : List UInt8) (wr : World) : Prop where
 own : Own wr w.heap.size v ws
 cat : catO putV (l.take k) = some ws
 len : ws.length ≤ 140000
 bel : Below w.heap.size w wr

end Go.Proofs.YthfknndjdfofgaaGreatDoor.Ex

/-
 Contracts of package exts' PutName, PutProtocols and PutVersions over this seat's translation.
-/
namespace Go.Proofs.YthfknndjdfofgaaGreatDoor.Ex
open Go.RowKit Go.Proofs.YthfknndjdfofgaaGreatDoor.Wd Go.Proofs.YthfknndjdfofgaaGreatDoor.Be Go.Proofs.YthfknndjdfofgaaGreatDoor.He Go.Proofs.YthfknndjdfofgaaGreatDoor.Ro

theorem cl1 : clampI 1 = ((1 : Nat) : Int) := by decide
theorem cl2 : clampI 2 = ((2 : Nat) : Int) := by decide

set_option maxHeartbeats 400000 in
theorem pname_any (x : List UInt8) (w : World) : Calls Tryz.prog 14 #[.string (str8 x)] w (ItemP (layS putN 2 [x]) w) := by
 have hC : (#[.string (str8 x)] : Array Value) = (Ro.flat elS [x]).toArray := by rw [Ro.flat_one]; rfl
 have HS := Lib.hid (SrcE.new fineS w [x] #[.string (str8 x)] hC 9)
 have HB := Lib.hid ((Below.refl w.heap.size w).alloc (Nat.le_refl _) (.cells #[.string (str8 x)] 9))
 clear hC
 go_enter Tryz.func14, Tryz.ntmps14
 go_wp2_with fail
 refine (lyN_any (some ⟨w.heap.size, 0, none⟩) 1 1 2 2 [x] _ HS.out rfl (by omega) cl2 (by omega)).mono ?_
 rintro e w1 ⟨A, n, c, rfl, hs, hnc, hb⟩
 have HS1 := Lib.hid hs
 have HB1 := Lib.hid (HB.out.trans (hb.mono HB.out.size))
 clear hs hb HS HB
 generalize layS putN 2 [x] = p at *
 go_wp2_with fail
 go_ret2
 exact ⟨A, n, c, rfl, HS1.out, hnc, HB1.out⟩

set_option maxHeartbeats 400000 in
theorem pprotos_any (A : Option Addr) (n c : Nat) (l : List (List UInt8)) (w : World) (hs : SrcE w elS A l) (hl : l.length = n) (hn : n ≤ 9223372036854775807) (hok : ∀ x ∈ l, x.length ≤ 9223372036854775807) :
   Calls Tryz.prog 15 #[.slice A n c] w (ItemP (layS putP 2 l) w) := by
 go_enter Tryz.func15, Tryz.ntmps15
 go_wp2_with fail
 refine (lyP_any A n c 2 2 l _ hs hl hn hok cl2 (by omega)).mono ?_
 rintro e w1 ⟨A, n, c, rfl, hs, hnc, hb⟩
 have HS1 := Lib.hid hs
 clear hs
 generalize layS putP 2 l = p at *
 go_wp2_with fail
 go_ret2
 exact ⟨A, n, c, rfl, HS1.out, hnc, hb⟩

end Go.Proofs.YthfknndjdfofgaaGreatDoor.Ex
