/-
 Contracts of package exts' Name, Protocols and Versions over this seat's translation.
-/
import Derived.Test.YthfknndjdfofgaaGreatDoorQ06
import Derived.Test.YthfknndjdfofgaaGreatDoorQ07
import Derived.Test.YthfknndjdfofgaaGreatDoorQ08
import Derived.Test.YthfknndjdfofgaaGreatDoorQ01
import Derived.Test.YthfknndjdfofgaaGreatDoorQ05
namespace Go.Proofs.YthfknndjdfofgaaGreatDoor.Ex
open Go.RowKit Go.Proofs.YthfknndjdfofgaaGreatDoor.Wd Go.Proofs.YthfknndjdfofgaaGreatDoor.Be Go.Proofs.YthfknndjdfofgaaGreatDoor.He Go.Proofs.YthfknndjdfofgaaGreatDoor.Ro

theorem bs_str8 (x : List UInt8) : Asc.bs (str8 x) = x := by simp [Asc.bs, str8]

set_option maxHeartbeats 400000 in
theorem may_any (x : List UInt8) (w : World) : Calls Tryz.prog 55 #[.string (str8 x)] w fun e w' => e = .returned (.bool (mayS x)) ∧ Below w.heap.size w w' := by
 have HM := Lib.hid (show mayS x = (decide (x.length ≤ 255) && Asc.allS Asc.visI x) from rfl)
 have hsz : (str8 x).size = x.length := rfl
 have HB := Lib.hid (bs_str8 x)
 generalize str8 x = s at *
 by_cases h : x.length ≤ 255
 · have hd : (s.size : Int) ≤ 255 := by omega
   have HD := Lib.hid (show decide (x.length ≤ 255) = true by simpa using h)
   clear h
   go_enter Tryz.func55, Tryz.ntmps55
   go_wp2_with fail
   refine (Asc.visible_any s w).mono ?_
   rintro e w1 ⟨rfl, hb⟩
   go_wp2_with fail
   go_ret
   rw [HM.out, HD.out, HB.out]
   exact ⟨rfl, hb⟩
 · have hd : ¬ (s.size : Int) ≤ 255 := by omega
   have HD := Lib.hid (show decide (x.length ≤ 255) = false by simpa using h)
   clear h
   go_enter Tryz.func55, Tryz.ntmps55
   go_wp2_with fail
   go_ret
   rw [HM.out, HD.out]
   exact ⟨rfl, Below.refl _ _⟩

theorem SrcE.only {α : Type} {e : El α} {w w' : World} {A : Option Addr} {l : List α} (h : SrcE w e A l) (hb : Below w.heap.size w w') : SrcE w' e A l := h.below hb

set_option maxRecDepth 100000 in
set_option maxHeartbeats 1000000 in
theorem name_any (A : Option Addr) (n c : Nat) (xs : List UInt8) (w : World) (hs : Src w A n xs) (hn : n ≤ 140737488355320) :
   Calls Tryz.prog 125 #[.slice A n c] w fun e w' => e = .returned (.tuple #[.string (str8 (nameS xs).1), .int .i64 (nameS xs).2]) ∧ Below w.heap.size w w' := by
 have HR := Lib.hid (show nameS xs = if (readS typO 2 xs).2 then nameL ((readS typO 2 xs).1.filter hostB) else ([], 3) from rfl)
 go_enter Tryz.func125, Tryz.ntmps125
 go_wp2_with fail
 refine (rdT_any A n c 2 xs w hs hn (.inr rfl)).mono ?_
 rintro e w1 ⟨v, rfl, hOw, hl, hb⟩
 have HO := Lib.hid hOw
 clear hOw hs
 generalize readS typO 2 xs = p at *
 obtain ⟨l, b⟩ := p
 simp only at HR HO hl
 cases b with
 | false =>
   have HE := Lib.hid (show nameS xs = ([], 3) by rw [HR.out]; rfl)
   go_wp2_with fail
   go_ret2
   rw [HE.out]
   exact ⟨rfl, hb⟩
 | true =>
   have HE := Lib.hid (show nameS xs = nameL (l.filter hostB) by rw [HR.out]; rfl)
   clear HR
   have HGe := Lib.hid (OwnE.ge HO.out)
   go_wp2_with fail
   refine (del_any v w.heap.size l w1 HO.out hl).mono ?_
   rintro e w2 ⟨A2, c2, rfl, hsrc, hg⟩
   have HS := Lib.hid hsrc
   have HB2 := Lib.hid (hb.grown hg hb.size (fun j hj => HGe.out j hj))
   clear hsrc hg hb HO HGe
   generalize l.filter hostB = m at *
   rcases m with _ | ⟨x, _ | ⟨y, m⟩⟩
   · have HF := Lib.hid (show nameS xs = ([], 8) from HE.out)
     go_wp2_with fail
     go_ret2
     rw [HF.out]
     exact ⟨rfl, HB2.out⟩
   · obtain ⟨g, o, rfl, hg, hc⟩ := HS.out 0 x rfl
     have hc1 : w2.cell? ⟨g, o + 1, none⟩ = some (.string (str8 x.2)) := by have := hc 1 _ rfl; rwa [Nat.zero_mul, Nat.zero_add] at this
     have HL := Lib.hid (show nameL [x] = if mayS x.2 then (x.2, 0) else ([], 9) from rfl)
     clear hc HS
     go_wp2_with fail
     refine (may_any x.2 w2).mono ?_
     rintro e w3 ⟨rfl, hb3⟩
     have hd1 : w3.cell? ⟨g, o + 1, none⟩ = some (.string (str8 x.2)) := (hb3.cell (p := ⟨g, _, none⟩) hg).trans hc1
     have HB3 := Lib.hid (HB2.out.trans (hb3.mono HB2.out.size))
     clear hc1 hb3 HB2
     obtain ⟨b, hb⟩ : ∃ b, mayS x.2 = b := ⟨_, rfl⟩
     rw [hb] at HL ⊢
     clear hb
     cases b with
     | true =>
       have HF := Lib.hid (show nameS xs = (x.2, 0) by rw [HE.out, HL.out]; rfl)
       go_wp2_with fail
       go_ret2
       rw [HF.out]
       exact ⟨rfl, HB3.out⟩
     | false =>
       have HF := Lib.hid (show nameS xs = ([], 9) by rw [HE.out, HL.out]; rfl)
       go_wp2_with fail
       go_ret2
       rw [HF.out]
       exact ⟨rfl, HB3.out⟩
   · have HF := Lib.hid (show nameS xs = ([], 7) from HE.out)
     have h1 : (1 : Int) < (((x :: y :: m).length : Nat) : Int) := by simp; omega
     generalize (x :: y :: m).length = q at *
     go_wp2_with fail
     go_ret2
     rw [HF.out]
     exact ⟨rfl, HB2.out⟩

set_option maxRecDepth 100000 in
set_option maxHeartbeats 1000000 in
theorem vers_any (A : Option Addr) (n c : Nat) (xs : List UInt8) (w : World) (hs : Src w A n xs) (hn : n ≤ 140737488355320) :
   Calls Tryz.prog 129 #[.slice A n c] w fun e w' => ∃ v, e = .returned (.tuple #[v, .int .i64 (verS xs).2]) ∧ OwnE w' elI w.heap.size v (verS xs).1 ∧ (verS xs).1.length ≤ 65535 ∧ Below w.heap.size w w' := by
 have HR := Lib.hid (show verS xs = if (readS verO 1 xs).2 then ((readS verO 1 xs).1, 0) else ([], 3) from rfl)
 go_enter Tryz.func129, Tryz.ntmps129
 go_wp2_with fail
 refine (rdI_any A n c 1 xs w hs hn (.inl rfl)).mono ?_
 rintro e w1 ⟨v, rfl, hOw, hl, hb⟩
 have HO := Lib.hid hOw
 clear hOw hs
 generalize readS verO 1 xs = p at *
 obtain ⟨l, b⟩ := p
 simp only at HR HO hl
 cases b with
 | false =>
   have HE := Lib.hid (show verS xs = ([], 3) by rw [HR.out]; rfl)
   go_wp2_with fail
   go_ret2
   rw [HE.out]
   exact ⟨_, rfl, OwnE.nil _ _ _, Nat.zero_le _, hb⟩
 | true =>
   have HE := Lib.hid (show verS xs = (l, 0) by rw [HR.out]; rfl)
   go_wp2_with fail
   go_ret2
   rw [HE.out]
   exact ⟨_, rfl, HO.out, hl, hb⟩

set_option maxRecDepth 100000 in
set_option maxHeartbeats 1000000 in
theorem index_any (A : Option Addr) (n c : Nat) (l : List (List UInt8)) (w : World) (hs : SrcE w elS A l) (hn : l.length = n) (hm : n ≤ 65535) :
   Calls Tryz.prog 196 #[.slice A n c, .string .empty] w fun e w' => ∃ i : Int, e = .returned (.int .i64 i) ∧ Hid (0 ≤ i ↔ [] ∈ l) ∧ Hid (Below w.heap.size w w') := by
 have HS := Lib.hid hs
 have HN := Lib.hid hn
 clear hs hn
 go_enter Tryz.func196, Tryz.ntmps196
 go_wp2_with fail
 go_loopw [8] (fun i wr => ∃ k, k ≤ n ∧ i = .int .i64 (k : Int) ∧ Hid (∀ x ∈ l.take k, x ≠ []) ∧ Hid (Below w.heap.size w wr)) (fun i _ => n - (intOf i).toNat)
 case atStart => exact ⟨0, Nat.zero_le _, rfl, Lib.hid (by simp), Lib.hid (Below.refl _ _)⟩
 case round =>
   obtain ⟨k, hk, rfl, HA, HB⟩ := hrel
   by_cases hlt : k < n
   · have hki : (k : Int) < (n : Int) := by omega
     obtain ⟨x, hx⟩ : ∃ x, l[k]? = some x := ⟨_, List.getElem?_eq_getElem (by have := HN.out; omega)⟩
     obtain ⟨g, o, hA, hg, hc⟩ := HS.out k x hx
     have hc0 : wr.cell? ⟨g, o + k, none⟩ = some (.string (str8 x)) := (HB.out.cell (p := ⟨g, _, none⟩) hg).trans (by have := hc 0 _ rfl; simpa [elS] using this)
     rw [hA]
     have HX := Lib.hid hx
     clear hA hc hx
     by_cases h0 : x = []
     · have he : (str8 x).toList.isEmpty = true := by rw [h0, Lib.toList_data]; rfl
       have HC := Lib.hid (show [] ∈ l by rw [← h0]; exact List.mem_of_getElem? HX.out)
       clear h0
       go_wp2_with fail
       go_ret
       exact ⟨(k : Int), rfl, ⟨fun _ => HC.out, fun _ => by omega⟩, HB.out⟩
     · have he : (str8 x).toList.isEmpty = false := by
         rw [Lib.toList_data]
         cases x with
         | nil => exact absurd rfl h0
         | cons a x => rfl
       have H0 := Lib.hid h0
       clear h0
       go_wp2_with fail
       go_roundw
       case rel => exact ⟨k + 1, by omega, by go_num, Lib.hid (fun y hy => by
         rw [List.take_add_one, HX.out] at hy
         rcases List.mem_append.1 hy with hy | hy
         · exact HA.out y hy
         · simp at hy; subst hy; exact H0.out), HB⟩
       case measure => simp [intOf]; omega
   · obtain rfl : k = n := by omega
     have HC := Lib.hid (show ¬ [] ∈ l from fun hcn => HA.out [] (by rw [← HN.out, List.take_length]; exact hcn) rfl)
     go_wp2_with fail
     go_ret
     exact ⟨-1, rfl, ⟨fun h => by omega, fun h => absurd h HC.out⟩, HB.out⟩

set_option maxRecDepth 100000 in
set_option maxHeartbeats 1000000 in
theorem contains_any (A : Option Addr) (n c : Nat) (l : List (List UInt8)) (w : World) (hs : SrcE w elS A l) (hn : l.length = n) (hm : n ≤ 65535) :
   Calls Tryz.prog 175 #[.slice A n c, .string .empty] w fun e w' => e = .returned (.bool (l.contains [])) ∧ Hid (Below w.heap.size w w') := by
 go_enter Tryz.func175, Tryz.ntmps175
 go_wp2_with fail
 refine (index_any A n c l w hs hn hm).mono ?_
 rintro e w1 ⟨i, rfl, hi, hb⟩
 by_cases h : 0 ≤ i
 · have HC := Lib.hid (show l.contains [] = true by rw [List.contains_iff_mem]; exact hi.out.1 h)
   go_wp2_with fail
   go_ret
   rw [HC.out]
   exact ⟨rfl, hb⟩
 · have HC := Lib.hid (show l.contains [] = false by rw [Bool.eq_false_iff, Ne, List.contains_iff_mem]; exact fun hm => h (hi.out.2 hm))
   have hd : decide (0 ≤ i) = false := decide_eq_false h
   go_wp2_with fail
   go_ret
   rw [HC.out]
   exact ⟨rfl, hb⟩

set_option maxRecDepth 100000 in
set_option maxHeartbeats 1000000 in
theorem protos_any (A : Option Addr) (n c : Nat) (xs : List UInt8) (w : World) (hs : Src w A n xs) (hn : n ≤ 140737488355320) :
   Calls Tryz.prog 127 #[.slice A n c] w fun e w' => ∃ v, e = .returned (.tuple #[v, .int .i64 (protoS xs).2]) ∧ OwnE w' elS w.heap.size v (protoS xs).1 ∧ (protoS xs).1.length ≤ 65535 ∧ Below w.heap.size w w' := by
 have HR := Lib.hid (show protoS xs = if (readS proO 2 xs).2 && !(readS proO 2 xs).1.contains [] then ((readS proO 2 xs).1, 0) else ([], 3) from rfl)
 go_enter Tryz.func127, Tryz.ntmps127
 go_wp2_with fail
 refine (rdS_any A n c 2 xs w hs hn (.inr rfl)).mono ?_
 rintro e w1 ⟨v, rfl, hOw, hl, hb⟩
 have HO := Lib.hid hOw
 clear hs
 generalize readS proO 2 xs = p at *
 obtain ⟨l, b⟩ := p
 simp only at HR HO hl hOw
 obtain ⟨A2, c2, rfl, _, _, hsrc⟩ := hOw.src fineS
 have HS := Lib.hid hsrc
 clear hsrc hOw
 cases b with
 | false =>
   have HE := Lib.hid (show protoS xs = ([], 3) by rw [HR.out]; rfl)
   go_wp2_with fail
   go_ret2
   rw [HE.out]
   exact ⟨_, rfl, OwnE.nil _ _ _, Nat.zero_le _, hb⟩
 | true =>
   obtain ⟨m, hm⟩ : ∃ m, l.length = m := ⟨_, rfl⟩
   rw [hm] at hl ⊢
   have HM := Lib.hid hm
   clear hm
   go_wp2_with fail
   refine (contains_any A2 m c2 l w1 HS.out HM.out hl).mono ?_
   rintro e w2 ⟨rfl, hb2⟩
   have HO2 := Lib.hid (show OwnE w2 elS w.heap.size (.slice A2 m c2) l by have := HO.out.below hb2.out; rwa [HM.out] at this)
   have HB2 := Lib.hid (hb.trans (hb2.out.mono hb.size))
   obtain ⟨q, hq⟩ : ∃ q, l.contains [] = q := ⟨_, rfl⟩
   rw [hq] at HR ⊢
   clear hq hb2 hb HO HS
   cases q with
   | true =>
     have HE := Lib.hid (show protoS xs = ([], 3) by rw [HR.out]; rfl)
     go_wp2_with fail
     go_ret2
     rw [HE.out]
     exact ⟨_, rfl, OwnE.nil _ _ _, Nat.zero_le _, HB2.out⟩
   | false =>
     have HE := Lib.hid (show protoS xs = (l, 0) by rw [HR.out]; rfl)
     go_wp2_with fail
     go_ret2
     rw [HE.out]
     exact ⟨_, rfl, HO2.out, by show l.length ≤ _; rw [HM.out]; exact hl, HB2.out⟩
end Go.Proofs.YthfknndjdfofgaaGreatDoor.Ex

/-
 Contracts of package exts' layers of one item over this seat's translation: layName, layProtocol, layVersion; be.Vec, whatever comes of it.
-/
namespace Go.Proofs.YthfknndjdfofgaaGreatDoor.Ex
open Go.RowKit Go.Proofs.YthfknndjdfofgaaGreatDoor.Wd Go.Proofs.YthfknndjdfofgaaGreatDoor.Be Go.Proofs.YthfknndjdfofgaaGreatDoor.He Go.Proofs.YthfknndjdfofgaaGreatDoor.Ro

def vecP (xs : List UInt8) (k : Nat) (ys : List UInt8) : Option (List UInt8) := if ys.length < 256 ^ k then some (xs ++ vecB k ys) else none
def VecP (xs : List UInt8) (p : Option (List UInt8)) (w : World) (e : Ending) (w' : World) : Prop :=
 ∃ A n c, e = .returned (.tuple #[.slice A n c, .bool p.isSome]) ∧ Src w' A n (p.getD xs) ∧ n ≤ c ∧ Below w.heap.size w w'
theorem bytes_str8 (x : List UInt8) (w : World) : ∃ c w', (convert 9 22 (.string (str8 x))).run Tryz.prog w = .ok (.slice (some ⟨w.heap.size, 0, none⟩) x.length c) w' ∧ Src w' (some ⟨w.heap.size, 0, none⟩) x.length x ∧ Below w.heap.size w w' ∧ w'.heap.size = w.heap.size + 1 ∧ x.length ≤ c := by
 refine ⟨_, _, run_bytes_of_string (P := Tryz.prog) w 9 22 5 (str8 x) Tryz.underlying9 Tryz.underlying22 Tryz.underlying5, ⟨rfl, fun _ => ⟨_, rfl, ?_, fun j c hj => ?_⟩⟩, ?_, ?_, grownCap_ge _ _ _ _⟩
 · show w.heap.size < (w.heap.push _).size
   simp
 · have hj' : (str8 x).data[j]? = some c := by rw [← Array.getElem?_toList]; simpa [str8] using hj
   have hlt := (Array.getElem?_eq_some_iff.1 hj').1
   rw [add_none, Nat.zero_add]
   refine (World.cell?_alloc_mark w.drew _ _ _ j).trans ?_
   rw [bytesRow_at (str8 x) _ j hlt, (Array.getElem?_eq_some_iff.1 hj').2]
   rfl
 · exact (Below.refl _ _).drew.alloc (Nat.le_refl _) _
 · show (w.heap.push _).size = _
   simp


theorem may_len {x : List UInt8} (h : mayS x = true) : x.length ≤ 255 := by
 unfold mayS at h
 rw [Bool.and_eq_true] at h
 exact of_decide_eq_true h.1
end Go.Proofs.YthfknndjdfofgaaGreatDoor.Ex

/-
 Contract of package exts' lay over this seat's translation, with hagioscope/exts.layProtocol.
-/
namespace Go.Proofs.YthfknndjdfofgaaGreatDoor.Ex
open Go.RowKit Go.Proofs.YthfknndjdfofgaaGreatDoor.Wd Go.Proofs.YthfknndjdfofgaaGreatDoor.Be Go.Proofs.YthfknndjdfofgaaGreatDoor.He Go.Proofs.YthfknndjdfofgaaGreatDoor.Ro

structure lyPAt (w : World) (l : List (List UInt8)) (k : Nat) (v : Value) (ws : List UInt8) (wr : World) : Prop where
 own : Own wr w.heap.size v ws
 cat : catO putP (l.take k) = some ws
 len : ws.length ≤ 140000
 bel : Below w.heap.size w wr

end Go.Proofs.YthfknndjdfofgaaGreatDoor.Ex

/-
 Contract of package exts' lay over this seat's translation, with hagioscope/exts.layName.
-/
namespace Go.Proofs.YthfknndjdfofgaaGreatDoor.Ex
open Go.RowKit Go.Proofs.YthfknndjdfofgaaGreatDoor.Wd Go.Proofs.YthfknndjdfofgaaGreatDoor.Be Go.Proofs.YthfknndjdfofgaaGreatDoor.He Go.Proofs.YthfknndjdfofgaaGreatDoor.Ro

structure lyNAt (w : World) (l : List (List UInt8)) (k : Nat) (v : Value) (ws : List UInt8) (wr : World) : Prop where
 own : Own wr w.heap.size v ws
 cat : catO putN (l.take k) = some ws
 len : ws.length ≤ 140000
 bel : Below w.heap.size w wr

end Go.Proofs.YthfknndjdfofgaaGreatDoor.Ex

/-
 Contract of package exts' lay over this seat's translation, with hagioscope/exts.layVersion.
-/
namespace Go.Proofs.YthfknndjdfofgaaGreatDoor.Ex
open Go.RowKit Go.Proofs.YthfknndjdfofgaaGreatDoor.Wd Go.Proofs.YthfknndjdfofgaaGreatDoor.Be Go.Proofs.YthfknndjdfofgaaGreatDoor.He Go.Proofs.YthfknndjdfofgaaGreatDoor.Ro

structure lyVAt (w : World) (l : List (Int)) (k : Nat) (v : Value) (ws : List UInt8) (wr : World) : Prop where
 own : Own wr w.heap.size v ws
 cat : catO putV (l.take k) = some ws
 len : ws.length ≤ 140000
 bel : Below w.heap.size w wr

end Go.Proofs.YthfknndjdfofgaaGreatDoor.Ex

/-
 Contracts of package exts' PutName, PutProtocols and PutVersions over this seat's translation.
-/
namespace Go.Proofs.YthfknndjdfofgaaGreatDoor.Ex
open Go.RowKit Go.Proofs.YthfknndjdfofgaaGreatDoor.Wd Go.Proofs.YthfknndjdfofgaaGreatDoor.Be Go.Proofs.YthfknndjdfofgaaGreatDoor.He Go.Proofs.YthfknndjdfofgaaGreatDoor.Ro

theorem cl1 : clampI 1 = ((1 : Nat) : Int) := by decide
theorem cl2 : clampI 2 = ((2 : Nat) : Int) := by decide

end Go.Proofs.YthfknndjdfofgaaGreatDoor.Ex

/-
 Contract of package hello's Find over this seat's translation.
-/
namespace Go.Proofs.YthfknndjdfofgaaGreatDoor.He
open Go.RowKit Go.Proofs.YthfknndjdfofgaaGreatDoor.Wd Go.Proofs.YthfknndjdfofgaaGreatDoor.Be

def findL (l : List (Int × List UInt8)) (kind : Int) : List UInt8 × Bool := match l with
 | [] => ([], false)
 | x :: l => if x.1 = kind then (x.2, true) else findL l kind
theorem findL_go {l : List Xt} {k : Nat} {x : Xt} (h : l[k]? = some x) (kind : Int) (hn : ¬ x.kind = kind) : findL ((l.drop k).map ext) kind = findL ((l.drop (k + 1)).map ext) kind := by
 obtain ⟨hk, rfl⟩ := List.getElem?_eq_some_iff.1 h
 rw [List.drop_eq_getElem_cons hk, List.map_cons, findL, if_neg (show ¬ (ext l[k]).1 = kind from hn)]
theorem findL_stop {l : List Xt} {k : Nat} {x : Xt} (h : l[k]? = some x) (kind : Int) (hn : x.kind = kind) : findL ((l.drop k).map ext) kind = (x.b, true) := by
 obtain ⟨hk, rfl⟩ := List.getElem?_eq_some_iff.1 h
 rw [List.drop_eq_getElem_cons hk, List.map_cons, findL, if_pos (show (ext l[k]).1 = kind from hn)]
 rfl
def FindPost (p : List UInt8 × Bool) (w : World) (e : Ending) (w' : World) : Prop :=
 ∃ v, e = .returned (.tuple #[v, .bool p.2]) ∧ Own w' w.heap.size v p.1 ∧ Below w.heap.size w w'

set_option maxRecDepth 100000 in
set_option maxHeartbeats 1000000 in
theorem find_any (H : Hv) (kind : Int) (w : World) (hH : H.Ok w) :
   Calls Tryz.prog 131 #[.agg H.C, .int .i64 kind] w (FindPost (findL H.hel.exts kind) w) := by
 have HH := Lib.hid hH
 have hr := hH.rnd
 have hx1 := hH.x1
 clear hH
 obtain ⟨R, hR⟩ : ∃ R, R = findL H.hel.exts kind := ⟨_, rfl⟩
 have HR0 := Lib.hid hR
 rw [← hR]
 clear hR
 go_enter Tryz.func131, Tryz.ntmps131
 go_upto_region 1 with fail
 have hb0 := Blk.new w 68 H.C
 have HB0 := Lib.hid ((Below.refl w.heap.size w).alloc (Nat.le_refl _) (.cells H.C 68))
 generalize w.alloc (.cells H.C 68) = w1 at *
 have hcx := cell_xs hb0 hr
 clear hb0
 obtain ⟨n, hn⟩ : ∃ n, n = H.xs.length := ⟨_, rfl⟩
 rw [← hn] at hcx hx1
 have HN := Lib.hid hn
 clear hn
 go_wp2_with fail
 go_loopw [11] (fun i wr => ∃ k, k ≤ n ∧ i = .int .i64 (k : Int) ∧ Hid (R = findL ((H.xs.drop k).map ext) kind) ∧ Hid (Below w.heap.size w wr)) (fun i _ => n - (intOf i).toNat)
 case atStart => exact ⟨0, Nat.zero_le _, rfl, Lib.hid (by rw [List.drop_zero]; exact HR0.out), HB0⟩
 case round =>
   obtain ⟨k, hk, rfl, HE, HB⟩ := hrel
   by_cases hlt : k < n
   · have hki : (k : Int) < (n : Int) := by omega
     obtain ⟨x, hx⟩ : ∃ x, H.xs[k]? = some x := ⟨_, List.getElem?_eq_getElem (by have := HN.out; omega)⟩
     obtain ⟨hok, g, o, hA, hgw, h0, h1⟩ := HH.out.xs k x hx
     rw [hA]
     have hc0 := (HB.out.cell (p := ⟨g, _, none⟩) hgw).trans h0
     have hc1 := (HB.out.cell (p := ⟨g, _, none⟩) hgw).trans h1
     have HOk := Lib.hid hok
     have hsmall := hok.small
     have HX := Lib.hid hx
     clear h0 h1 hok hx HR0 hA hcx
     go_upto_region 4 with fail
     have HZ1 := Lib.hid (Blk.new wr 70 #[Value.int .i64 x.kind, .slice x.A x.n x.c])
     have hz0 : (wr.alloc (.cells #[Value.int .i64 x.kind, .slice x.A x.n x.c] 70)).cell? ⟨wr.heap.size, 0, none⟩ = some (.int .i64 x.kind) := by rw [HZ1.out.cell]; rfl
     have hz1 : (wr.alloc (.cells #[Value.int .i64 x.kind, .slice x.A x.n x.c] 70)).cell? ⟨wr.heap.size, 1, none⟩ = some (.slice x.A x.n x.c) := by rw [HZ1.out.cell]; rfl
     have HB1 := Lib.hid (HB.out.alloc HB.out.size (.cells #[Value.int .i64 x.kind, .slice x.A x.n x.c] 70))
     clear HB hc0 hc1
     generalize wr.alloc (.cells #[Value.int .i64 x.kind, .slice x.A x.n x.c] 70) = w2 at *
     generalize wr.heap.size = z at *
     by_cases hkd : x.kind = kind
     · have HF := Lib.hid (show R = (x.b, true) by rw [HE.out]; exact findL_stop HX.out kind hkd)
       have hkb : (x.kind == kind) = true := by simpa using hkd
       clear hkd
       go_wp2_with fail
       refine (bclone_any w2 x.A x.n x.c x.b (HOk.out.src.below HB1.out) (by omega)).mono ?_
       rintro e w3 ⟨v3, rfl, ho3, hb3⟩
       have HO3 := Lib.hid ho3
       have HB3 := Lib.hid hb3
       clear ho3 hb3
       go_wp2_with fail
       go_ret2
       rw [HF.out]
       exact ⟨v3, rfl, HO3.out.lower HB1.out.size, HB1.out.trans (HB3.out.mono HB1.out.size)⟩
     · have HG := Lib.hid (show R = findL ((H.xs.drop (k + 1)).map ext) kind by rw [HE.out]; exact findL_go HX.out kind hkd)
       have hkb : (x.kind == kind) = false := by simpa using hkd
       clear hkd
       go_wp2_with fail
       go_roundw
       case rel => exact ⟨k + 1, by omega, by go_num, HG, HB1⟩
       case measure => simp [intOf]; omega
   · obtain rfl : k = n := by omega
     have HF := Lib.hid (show R = ([], false) by rw [HE.out, List.drop_eq_nil_of_le (by have := HN.out; omega)]; rfl)
     clear hcx
     go_wp2_with fail
     go_ret2
     rw [HF.out]
     exact ⟨_, rfl, ⟨rfl, .inl ⟨rfl, rfl⟩⟩, HB.out⟩
end Go.Proofs.YthfknndjdfofgaaGreatDoor.He

/-
 Plain facts on what is found of a hello's extensions. No condition.
-/
namespace Go.Proofs.YthfknndjdfofgaaGreatDoor.Ex
open Go.RowKit Go.Proofs.YthfknndjdfofgaaGreatDoor.Wd Go.Proofs.YthfknndjdfofgaaGreatDoor.Be Go.Proofs.YthfknndjdfofgaaGreatDoor.He Go.Proofs.YthfknndjdfofgaaGreatDoor.Ro

def fdS {α : Type} (tell : List UInt8 → List α × Int) (p : List UInt8 × Bool) : List α × Int := if p.2 then tell p.1 else ([], 0)
theorem findL_mem : ∀ (l : List (Int × List UInt8)) (kind : Int), (findL l kind).1 = [] ∨ ∃ x ∈ l, (findL l kind).1 = x.2
 | [], _ => .inl rfl
 | x :: l, kind => by
   rw [findL]
   split
   · exact .inr ⟨x, by simp, rfl⟩
   · rcases findL_mem l kind with h | ⟨y, hy, h⟩
     · exact .inl h
     · exact .inr ⟨y, by simp [hy], h⟩
theorem findL_len {H : Hv} {w : World} (hH : H.Ok w) (kind : Int) : (findL H.hel.exts kind).1.length ≤ 140737488351232 := by
 rcases findL_mem H.hel.exts kind with h | ⟨x, hx, h⟩
 · rw [h]; exact Nat.zero_le _
 · rw [h]
   have hx' : x ∈ H.xs.map ext := hx
   obtain ⟨y, hy, rfl⟩ := List.mem_map.1 hx'
   obtain ⟨i, hi⟩ := List.mem_iff_getElem?.1 hy
   have hok := (hH.xs i y hi).1
   have h1 := hok.src.1
   have h2 := hok.small
   show y.b.length ≤ _
   omega
def RelN (_ : World) (_ : Nat) (v : Value) (x : List UInt8) : Prop := v = .string (str8 x)
def RelP (w : World) (B : Nat) (v : Value) (l : List (List UInt8)) : Prop := OwnE w elS B v l ∧ l.length ≤ 65535
def RelV (w : World) (B : Nat) (v : Value) (l : List Int) : Prop := OwnE w elI B v l ∧ l.length ≤ 65535

end Go.Proofs.YthfknndjdfofgaaGreatDoor.Ex

/-
 Contract of package exts' find over this seat's translation, with hagioscope/exts.Name.
-/
namespace Go.Proofs.YthfknndjdfofgaaGreatDoor.Ex
open Go.RowKit Go.Proofs.YthfknndjdfofgaaGreatDoor.Wd Go.Proofs.YthfknndjdfofgaaGreatDoor.Be Go.Proofs.YthfknndjdfofgaaGreatDoor.He Go.Proofs.YthfknndjdfofgaaGreatDoor.Ro

set_option maxRecDepth 100000 in
set_option maxHeartbeats 1000000 in
theorem fdN_any (H : Hv) (kind : Int) (w : World) (hH : H.Ok w) :
   Calls Tryz.prog 124 #[.agg H.C, .int .i64 kind, .func (.func 125) #[] #[]] w fun e w' => ∃ v, e = .returned (.tuple #[v, .bool (findL H.hel.exts kind).2, .int .i64 (fdS nameS (findL H.hel.exts kind)).2]) ∧ RelN w' w.heap.size v (fdS nameS (findL H.hel.exts kind)).1 ∧ Below w.heap.size w w' := by
 have hr := hH.rnd
 have hlen := findL_len hH kind
 have HHa := Lib.hid (hH.below ((Below.refl w.heap.size w).alloc (Nat.le_refl _) (.cells H.C 68)))
 have HB0 := Lib.hid ((Below.refl w.heap.size w).alloc (Nat.le_refl _) (.cells H.C 68))
 clear hH
 go_enter Tryz.func124, Tryz.ntmps124
 go_upto_region 1 with fail
 have hb0 := Blk.new w 68 H.C
 generalize w.alloc (.cells H.C 68) = w0 at *
 go_wp2_with (refine go_ld 68 hb0 undH rfl infH (Hv.size hr) rfl rfl rfl ?_)
 refine (find_any H kind w0 HHa.out).mono ?_
 rintro e w1 ⟨v1, rfl, ho1, hb1⟩
 have HB1 := Lib.hid (HB0.out.trans (hb1.mono HB0.out.size))
 obtain ⟨A1, c1, rfl, _, hs1⟩ := Own.src ho1
 have HS1 := Lib.hid hs1
 clear ho1 hs1 hb1 hb0 HHa
 obtain ⟨p, hp⟩ : ∃ p, findL H.hel.exts kind = p := ⟨_, rfl⟩
 have HP := Lib.hid hp
 rw [hp] at hlen HS1 ⊢
 clear hp
 obtain ⟨d, b⟩ := p
 simp only at hlen HS1 ⊢
 have HF := Lib.hid (show fdS nameS (d, b) = if b then nameS d else ([], 0) from rfl)
 cases b with
 | false =>
   have HE := Lib.hid (show fdS nameS (d, false) = ([], 0) by rw [HF.out]; rfl)
   clear HF
   go_wp2_with fail
   go_ret3
   rw [HP.out, HE.out]
   exact ⟨_, rfl, rfl, HB1.out⟩
 | true =>
   have HE := Lib.hid (show fdS nameS (d, true) = nameS d by rw [HF.out]; rfl)
   clear HF
   obtain ⟨m, hm⟩ : ∃ m, d.length = m := ⟨_, rfl⟩
   rw [hm] at HS1 hlen ⊢
   clear hm
   go_wp2_with fail
   refine (name_any A1 m c1 d w1 HS1.out (by omega)).mono ?_
   rintro e w2 ⟨rfl, hb2⟩
   have HB2 := Lib.hid (HB1.out.trans (hb2.mono HB1.out.size))
   clear hb2
   rw [← HE.out]
   go_wp2_with fail
   go_ret3
   rw [HP.out]
   exact ⟨_, rfl, rfl, HB2.out⟩
end Go.Proofs.YthfknndjdfofgaaGreatDoor.Ex

/-
 Contract of package exts' find over this seat's translation, with hagioscope/exts.Protocols.
-/
namespace Go.Proofs.YthfknndjdfofgaaGreatDoor.Ex
open Go.RowKit Go.Proofs.YthfknndjdfofgaaGreatDoor.Wd Go.Proofs.YthfknndjdfofgaaGreatDoor.Be Go.Proofs.YthfknndjdfofgaaGreatDoor.He Go.Proofs.YthfknndjdfofgaaGreatDoor.Ro

set_option maxRecDepth 100000 in
set_option maxHeartbeats 1000000 in
theorem fdP_any (H : Hv) (kind : Int) (w : World) (hH : H.Ok w) :
   Calls Tryz.prog 126 #[.agg H.C, .int .i64 kind, .func (.func 127) #[] #[]] w fun e w' => ∃ v, e = .returned (.tuple #[v, .bool (findL H.hel.exts kind).2, .int .i64 (fdS protoS (findL H.hel.exts kind)).2]) ∧ RelP w' w.heap.size v (fdS protoS (findL H.hel.exts kind)).1 ∧ Below w.heap.size w w' := by
 have hr := hH.rnd
 have hlen := findL_len hH kind
 have HHa := Lib.hid (hH.below ((Below.refl w.heap.size w).alloc (Nat.le_refl _) (.cells H.C 68)))
 have HB0 := Lib.hid ((Below.refl w.heap.size w).alloc (Nat.le_refl _) (.cells H.C 68))
 clear hH
 go_enter Tryz.func126, Tryz.ntmps126
 go_upto_region 1 with fail
 have hb0 := Blk.new w 68 H.C
 generalize w.alloc (.cells H.C 68) = w0 at *
 go_wp2_with (refine go_ld 68 hb0 undH rfl infH (Hv.size hr) rfl rfl rfl ?_)
 refine (find_any H kind w0 HHa.out).mono ?_
 rintro e w1 ⟨v1, rfl, ho1, hb1⟩
 have HB1 := Lib.hid (HB0.out.trans (hb1.mono HB0.out.size))
 obtain ⟨A1, c1, rfl, _, hs1⟩ := Own.src ho1
 have HS1 := Lib.hid hs1
 clear ho1 hs1 hb1 hb0 HHa
 obtain ⟨p, hp⟩ : ∃ p, findL H.hel.exts kind = p := ⟨_, rfl⟩
 have HP := Lib.hid hp
 rw [hp] at hlen HS1 ⊢
 clear hp
 obtain ⟨d, b⟩ := p
 simp only at hlen HS1 ⊢
 have HF := Lib.hid (show fdS protoS (d, b) = if b then protoS d else ([], 0) from rfl)
 cases b with
 | false =>
   have HE := Lib.hid (show fdS protoS (d, false) = ([], 0) by rw [HF.out]; rfl)
   clear HF
   go_wp2_with fail
   go_ret3
   rw [HP.out, HE.out]
   exact ⟨_, rfl, ⟨OwnE.nil _ _ _, Nat.zero_le _⟩, HB1.out⟩
 | true =>
   have HE := Lib.hid (show fdS protoS (d, true) = protoS d by rw [HF.out]; rfl)
   clear HF
   obtain ⟨m, hm⟩ : ∃ m, d.length = m := ⟨_, rfl⟩
   rw [hm] at HS1 hlen ⊢
   clear hm
   go_wp2_with fail
   refine (protos_any A1 m c1 d w1 HS1.out (by omega)).mono ?_
   rintro e w2 ⟨v2, rfl, ho2, hl2, hb2⟩
   have HB2 := Lib.hid (HB1.out.trans (hb2.mono HB1.out.size))
   clear hb2
   rw [← HE.out] at ho2 hl2 ⊢
   have HO2 := Lib.hid ho2
   clear ho2
   go_wp2_with fail
   go_ret3
   rw [HP.out]
   exact ⟨_, rfl, ⟨HO2.out.lower HB1.out.size, hl2⟩, HB2.out⟩
end Go.Proofs.YthfknndjdfofgaaGreatDoor.Ex

/-
 Contract of package exts' find over this seat's translation, with hagioscope/exts.Versions.
-/
namespace Go.Proofs.YthfknndjdfofgaaGreatDoor.Ex
open Go.RowKit Go.Proofs.YthfknndjdfofgaaGreatDoor.Wd Go.Proofs.YthfknndjdfofgaaGreatDoor.Be Go.Proofs.YthfknndjdfofgaaGreatDoor.He Go.Proofs.YthfknndjdfofgaaGreatDoor.Ro

set_option maxRecDepth 100000 in
set_option maxHeartbeats 1000000 in
theorem fdV_any (H : Hv) (kind : Int) (w : World) (hH : H.Ok w) :
   Calls Tryz.prog 128 #[.agg H.C, .int .i64 kind, .func (.func 129) #[] #[]] w fun e w' => ∃ v, e = .returned (.tuple #[v, .bool (findL H.hel.exts kind).2, .int .i64 (fdS verS (findL H.hel.exts kind)).2]) ∧ RelV w' w.heap.size v (fdS verS (findL H.hel.exts kind)).1 ∧ Below w.heap.size w w' := by
 have hr := hH.rnd
 have hlen := findL_len hH kind
 have HHa := Lib.hid (hH.below ((Below.refl w.heap.size w).alloc (Nat.le_refl _) (.cells H.C 68)))
 have HB0 := Lib.hid ((Below.refl w.heap.size w).alloc (Nat.le_refl _) (.cells H.C 68))
 clear hH
 go_enter Tryz.func128, Tryz.ntmps128
 go_upto_region 1 with fail
 have hb0 := Blk.new w 68 H.C
 generalize w.alloc (.cells H.C 68) = w0 at *
 go_wp2_with (refine go_ld 68 hb0 undH rfl infH (Hv.size hr) rfl rfl rfl ?_)
 refine (find_any H kind w0 HHa.out).mono ?_
 rintro e w1 ⟨v1, rfl, ho1, hb1⟩
 have HB1 := Lib.hid (HB0.out.trans (hb1.mono HB0.out.size))
 obtain ⟨A1, c1, rfl, _, hs1⟩ := Own.src ho1
 have HS1 := Lib.hid hs1
 clear ho1 hs1 hb1 hb0 HHa
 obtain ⟨p, hp⟩ : ∃ p, findL H.hel.exts kind = p := ⟨_, rfl⟩
 have HP := Lib.hid hp
 rw [hp] at hlen HS1 ⊢
 clear hp
 obtain ⟨d, b⟩ := p
 simp only at hlen HS1 ⊢
 have HF := Lib.hid (show fdS verS (d, b) = if b then verS d else ([], 0) from rfl)
 cases b with
 | false =>
   have HE := Lib.hid (show fdS verS (d, false) = ([], 0) by rw [HF.out]; rfl)
   clear HF
   go_wp2_with fail
   go_ret3
   rw [HP.out, HE.out]
   exact ⟨_, rfl, ⟨OwnE.nil _ _ _, Nat.zero_le _⟩, HB1.out⟩
 | true =>
   have HE := Lib.hid (show fdS verS (d, true) = verS d by rw [HF.out]; rfl)
   clear HF
   obtain ⟨m, hm⟩ : ∃ m, d.length = m := ⟨_, rfl⟩
   rw [hm] at HS1 hlen ⊢
   clear hm
   go_wp2_with fail
   refine (vers_any A1 m c1 d w1 HS1.out (by omega)).mono ?_
   rintro e w2 ⟨v2, rfl, ho2, hl2, hb2⟩
   have HB2 := Lib.hid (HB1.out.trans (hb2.mono HB1.out.size))
   clear hb2
   rw [← HE.out] at ho2 hl2 ⊢
   have HO2 := Lib.hid ho2
   clear ho2
   go_wp2_with fail
   go_ret3
   rw [HP.out]
   exact ⟨_, rfl, ⟨HO2.out.lower HB1.out.size, hl2⟩, HB2.out⟩
end Go.Proofs.YthfknndjdfofgaaGreatDoor.Ex

/-
 Contract over this seat's translation: cmp.Or at errors.
-/
namespace Go.Proofs.YthfknndjdfofgaaGreatDoor.Ex
open Go.RowKit Go.Proofs.YthfknndjdfofgaaGreatDoor.Wd Go.Proofs.YthfknndjdfofgaaGreatDoor.Be Go.Proofs.YthfknndjdfofgaaGreatDoor.He Go.Proofs.YthfknndjdfofgaaGreatDoor.Ro

def orL : List Int → Int
 | [] => 0
 | x :: l => if x = 0 then orL l else x
theorem orL_go {l : List Int} {k : Nat} {x : Int} (hx : l[k]? = some x) (h : x = 0) : orL (l.drop k) = orL (l.drop (k + 1)) := by
 obtain ⟨hk, rfl⟩ := List.getElem?_eq_some_iff.1 hx
 rw [List.drop_eq_getElem_cons hk, orL, if_pos h]
theorem orL_stop {l : List Int} {k : Nat} {x : Int} (hx : l[k]? = some x) (h : ¬ x = 0) : orL (l.drop k) = x := by
 obtain ⟨hk, rfl⟩ := List.getElem?_eq_some_iff.1 hx
 rw [List.drop_eq_getElem_cons hk, orL, if_neg h]
set_option maxRecDepth 100000 in
set_option maxHeartbeats 1000000 in
theorem or_any (l : List Int) (g n c : Nat) (w : World) (hl : l.length = n) (hn : n ≤ 65535) (hc : ∀ (k : Nat) (x : Int), l[k]? = some x → w.cell? ⟨g, k, none⟩ = some (.int .i64 x)) :
   Calls Tryz.prog 130 #[.slice (some ⟨g, 0, none⟩) n c] w fun e w' => e = .returned (.int .i64 (orL l)) ∧ Hid (Below w.heap.size w w') := by
 have HN := Lib.hid hl
 clear hl
 go_enter Tryz.func130, Tryz.ntmps130
 have HC0 := Lib.hid hc
 clear hc
 go_wp2_with fail
 go_loopw [8] (fun i wr => ∃ k, k ≤ n ∧ i = .int .i64 (k : Int) ∧ Hid (orL l = orL (l.drop k)) ∧ Hid (wr = w)) (fun i _ => n - (intOf i).toNat)
 case atStart => exact ⟨0, Nat.zero_le _, rfl, Lib.hid (by rw [List.drop_zero]), Lib.hid rfl⟩
 case round =>
   obtain ⟨k, hk, rfl, HE, HW⟩ := hrel
   obtain rfl := HW.out
   by_cases hlt : k < n
   · have hki : (k : Int) < (n : Int) := by omega
     obtain ⟨x, hx⟩ : ∃ x, l[k]? = some x := ⟨_, List.getElem?_eq_getElem (by have := HN.out; omega)⟩
     have hc0 := HC0.out k x hx
     have HX := Lib.hid hx
     clear hx
     by_cases h0 : x = 0
     · have HG := Lib.hid (show orL l = orL (l.drop (k + 1)) by rw [HE.out]; exact orL_go HX.out h0)
       have hb : (x != 0) = false := by simp [h0]
       have hb2 : decide (x = 0) = true := by simp [h0]
       clear h0
       go_wp2_with fail
       go_roundw
       case rel => exact ⟨k + 1, by omega, by go_num, HG, Lib.hid (by simp)⟩
       case measure => simp [intOf]; omega
     · have HG := Lib.hid (show orL l = x by rw [HE.out]; exact orL_stop HX.out h0)
       have hb : (x != 0) = true := by simp [h0]
       have hb2 : decide (x = 0) = false := by simp [h0]
       clear h0
       go_wp2_with fail
       go_ret
       rw [HG.out]
       exact ⟨rfl, Lib.hid (Below.refl _ _)⟩
   · obtain rfl : k = n := by omega
     have HF := Lib.hid (show orL l = 0 by rw [HE.out, List.drop_eq_nil_of_le (by have := HN.out; omega)]; rfl)
     go_wp2_with fail
     go_ret
     rw [HF.out]
     exact ⟨rfl, Lib.hid (Below.refl _ _)⟩
end Go.Proofs.YthfknndjdfofgaaGreatDoor.Ex
