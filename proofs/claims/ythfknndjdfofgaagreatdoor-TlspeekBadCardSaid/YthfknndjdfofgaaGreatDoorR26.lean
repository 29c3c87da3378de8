/-
 Contract of hagioscoperef02's Visible over this seat's translation (XRefAsc's, for seats without the rest).
-/
import Derived.Test.YthfknndjdfofgaaGreatDoorR07
import Derived.Test.YthfknndjdfofgaaGreatDoorR19
import Derived.Test.YthfknndjdfofgaaGreatDoorR08
namespace Go.Proofs.YthfknndjdfofgaaGreatDoor.Asc
open Go.RowKit Go.Proofs.YthfknndjdfofgaaGreatDoor.Wd

set_option maxHeartbeats 1000000 in
theorem rvisible_any (s : ByteArray) (w : World) (hs : s.size ≤ maxLen) :
   Calls Tryz.prog 57 #[.string s] w fun e w' => e = .returned (.bool (allS visI (bs s))) ∧ w = w' := by
 unfold maxLen at hs
 go_enter Tryz.func57, Tryz.ntmps57
 go_wp2
 go_loop [3] (fun x => ∃ k : Nat, x = .int .i64 k ∧ k ≤ s.size ∧ ((bs s).take k).all (fun c => visI (c.toNat : Int)) = true) (fun x => s.size - (intOf x).toNat)
 case atStart => exact ⟨0, rfl, Nat.zero_le _, rfl⟩
 case round =>
   obtain ⟨k, rfl, hk, ht⟩ := hrel
   have HT := Lib.hid ht
   clear ht
   by_cases hlt : k < s.size
   · by_cases c1 : ((s[k]'hlt).toNat : Int) < 33
     · go_wp2
       go_ret
       exact ⟨ret_b (allS_no visI s k hlt (by simp [visI]; omega)).symm, rfl⟩
     · by_cases c2 : 126 < ((s[k]'hlt).toNat : Int)
       · go_wp2
         go_ret
         exact ⟨ret_b (allS_no visI s k hlt (by simp [visI]; omega)).symm, rfl⟩
       · go_wp2
         go_round
         case rel => exact ⟨k + 1, by go_num, hlt, take_all visI s k hlt HT.out (by simp [visI]; omega)⟩
         case measure => simp [intOf]; omega
   · go_wp2
     go_ret
     exact ⟨ret_b (allS_nil visI s k hlt hk HT.out), rfl⟩

end Go.Proofs.YthfknndjdfofgaaGreatDoor.Asc

/-
 Contract of hagioscoperef10's Name over this seat's translation: it answers what nameS says.
-/
namespace Go.Proofs.YthfknndjdfofgaaGreatDoor.Ex
open Go.RowKit Go.Proofs.YthfknndjdfofgaaGreatDoor.Wd Go.Proofs.YthfknndjdfofgaaGreatDoor.Be Go.Proofs.YthfknndjdfofgaaGreatDoor.He Go.Proofs.YthfknndjdfofgaaGreatDoor.Ro

theorem Sq.cap {w : World} {v : Value} {xs : List UInt8} (h : Sq w v xs) : ∃ A c, v = .slice A xs.length c ∧ xs.length ≤ c ∧ c ≤ 9223372036854775807 ∧ Src w A xs.length xs := by
 obtain ⟨A, c, rfl, h1, h2⟩ := h.src
 refine ⟨A, c, rfl, h1, ?_, h2⟩
 obtain ⟨_, ⟨h0, _⟩ | ⟨g, cap, cur, hv, _, _, _, hm, _⟩⟩ := h
 · injection h0 with _ _ h3; omega
 · injection hv with _ _ h3
   unfold maxLen at hm
   omega

def lastN : List (Int × List UInt8) → List UInt8
 | [] => []
 | [x] => x.2
 | _ :: l => lastN l
structure RnAt (B r : Nat) (w : World) (ys : List UInt8) (cnt : Int) (s : Value) (st : Option (List UInt8)) (wr : World) : Prop where
 rd : Rq B wr r st
 all : ∃ l f, leftS st < f ∧ itemsS typO ys = (l ++ (itemsF typO f st).1, (itemsF typO f st).2) ∧ cnt = (((l.filter hostB).length : Nat) : Int) ∧ s = .string (str8 (lastN (l.filter hostB))) ∧ (lastN (l.filter hostB)).length ≤ 65535 ∧ (l = [] → st = some ys) ∧ l.length + leftS st ≤ 65535
 some_ : ∃ rest, st = some rest
 bel : Below w.heap.size w wr
 far : w.heap.size ≤ r

end Go.Proofs.YthfknndjdfofgaaGreatDoor.Ex

/-
 Contract of hagioscoperef10's Protocols over this seat's translation: it answers what protoS says.
-/
namespace Go.Proofs.YthfknndjdfofgaaGreatDoor.Ex
open Go.RowKit Go.Proofs.YthfknndjdfofgaaGreatDoor.Wd Go.Proofs.YthfknndjdfofgaaGreatDoor.Be Go.Proofs.YthfknndjdfofgaaGreatDoor.He Go.Proofs.YthfknndjdfofgaaGreatDoor.Ro

structure RpAt (B r : Nat) (w : World) (ys : List UInt8) (v : Value) (st : Option (List UInt8)) (wr : World) : Prop where
 rd : Rq B wr r st
 all : ∃ l f, OwnE wr elS (r + 1) v l ∧ leftS st < f ∧ itemsS proO ys = (l ++ (itemsF proO f st).1, (itemsF proO f st).2) ∧ [] ∉ l ∧ (l = [] → st = some ys) ∧ l.length + leftS st ≤ 65535
 some_ : ∃ rest, st = some rest
 bel : Below w.heap.size w wr
 far : w.heap.size ≤ r

end Go.Proofs.YthfknndjdfofgaaGreatDoor.Ex

/-
 Contract of hagioscoperef10's Versions over this seat's translation: it answers what verS says.
-/
namespace Go.Proofs.YthfknndjdfofgaaGreatDoor.Ex
open Go.RowKit Go.Proofs.YthfknndjdfofgaaGreatDoor.Wd Go.Proofs.YthfknndjdfofgaaGreatDoor.Be Go.Proofs.YthfknndjdfofgaaGreatDoor.He Go.Proofs.YthfknndjdfofgaaGreatDoor.Ro

structure RvAt (w : World) (A : Option Addr) (nl cl : Nat) (ys : List UInt8) (v : Value) (l : List Int) (wr : World) : Prop where
 own : OwnE wr elI w.heap.size v l
 sq : Sq wr (.slice A nl cl) ys
 bel : Below w.heap.size w wr
end Go.Proofs.YthfknndjdfofgaaGreatDoor.Ex
