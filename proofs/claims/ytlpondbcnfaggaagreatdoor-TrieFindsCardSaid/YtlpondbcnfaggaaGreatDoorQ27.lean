/-
  law18's small case over this seat's translation, over the contracts of package trie. No condition.
-/
import Derived.Test.YtlpondbcnfaggaaGreatDoorQ26
namespace Go.Proofs.YtlpondbcnfaggaaGreatDoor.Tr
open Go.RowKit Go.Proofs.YtlpondbcnfaggaaGreatDoor.Wd Go.Proofs.YtlpondbcnfaggaaGreatDoor.Asc Go.Proofs.YtlpondbcnfaggaaGreatDoor.Tx Go.Proofs.YtlpondbcnfaggaaGreatDoor.St

def q1 : Ru := ⟨false, 0, [42], 0, []⟩
def q2 : Ru := ⟨true, 0, [42, 46, 97, 46, 98], 0, []⟩
def q3 : Ru := ⟨false, 0, [42, 46, 97, 46, 98], 0, []⟩
def q4 : Ru := ⟨false, 0, [120, 46, 97, 46, 98], 80, [104, 50]⟩
def q5 : Ru := ⟨false, 0, [65, 46, 98], 0, []⟩
/-- one trie, of the call's own -/
structure SmIn (Tri : World → Nat → List Nat → List Ru → Prop) (B : Nat) (W : World) (g : Nat) (S : List Nat) (L : List Ru) (w : World) : Prop where
  t : Tri w g S L
  far : ∀ i ∈ g :: S, W.heap.size ≤ i
  bel : Below W.heap.size W w
  env : Ad.Env B w
  le : B ≤ W.heap.size
section
variable {Tri : World → Nat → List Nat → List Ru → Prop} {B : Nat} {W w w' : World} {g : Nat} {S : List Nat} {L L' : List Ru}
theorem SmIn.on (C : TrC Tri) (h : SmIn Tri B W g S L w) (hb : Below w.heap.size w w') : SmIn Tri B W g S L w' := ⟨C.below h.t hb, h.far, h.bel.trans (hb.mono h.bel.size), h.env.on hb, h.le⟩
theorem sm_add (C : TrC Tri) (h : SmIn Tri B W g S L w) (r : Ru) (e0 : Int) (h1 : addE L r = e0) (h2 : addS L r = L') (z1 : r.pa.length ≤ 1000000) (z2 : r.ap.length ≤ 1000000) :
    Calls Tryz.prog 21 #[.pointer (some ⟨g, 0, none⟩), .agg (ruC r)] w fun e w' => e = .returned (.int .i64 e0) ∧ ∃ S', SmIn Tri B W g S' L' w' := by
  refine (C.add_ h.env (fun i hi => Nat.le_trans h.le (h.far i hi)) h.t r z1 z2).mono ?_
  rintro e w' ⟨S', rfl, ht, hS, hb⟩
  have hbl := hb.below h.far h.bel.size
  refine ⟨by rw [h1], S', by rw [← h2]; exact ht, fun i hi => ?_, h.bel.trans hbl, h.env.below (hbl.mono h.le), h.le⟩
  rcases List.mem_cons.1 hi with hi | hi
  · rw [hi]; exact h.far g (by simp)
  · rcases hS i hi with hi | hi
    · exact h.far i (List.mem_cons_of_mem _ hi)
    · exact Nat.le_trans h.bel.size hi
theorem sm_find (C : TrC Tri) (h : SmIn Tri B W g S L w) (s : ByteArray) (port : Int) (A : Option Addr) (n c : Nat) (ss : List ByteArray) (x : Ru) (i : Nat) (ho : findS L (bs s) port (ss.map bs) = some (x, i)) (hs : s.size ≤ 1000000) (hp : -9223372036854775808 ≤ port ∧ port ≤ 9223372036854775807) (hn : ss.length = n) (hc : n ≤ c) (hm : n ≤ 1000000) (hss : SrcS w A ss) :
    Calls Tryz.prog 23 #[.pointer (some ⟨g, 0, none⟩), .string s, .int .i64 port, .slice A n c] w fun e w' => e = .returned (.tuple #[.agg (ruC x), .int .i64 (i : Nat), .bool true]) ∧ SmIn Tri B W g S L w' ∧ Below w.heap.size w w' := by
  refine (C.find_at h.env h.t s port A n c ss hs hp hn hc hm hss _ ho).mono ?_
  rintro e w' ⟨rfl, hb⟩
  exact ⟨rfl, h.on C hb, hb⟩
theorem sm_match (C : TrC Tri) (h : SmIn Tri B W g S L w) (p s : ByteArray) (b : Bool) (hm : matchB (bs p) (bs s) = b) (z1 : p.size ≤ 1000000) (z2 : s.size ≤ 1000000) :
    Calls Tryz.prog 16 #[.string p, .string s] w fun e w' => e = .returned (.bool b) ∧ SmIn Tri B W g S L w' ∧ Below w.heap.size w w' := by
  refine (C.matches_ h.env p s z1 z2).mono ?_
  rintro e w' ⟨rfl, hb⟩
  exact ⟨by rw [hm], h.on C hb, hb⟩
theorem sm_right (C : TrC Tri) (h : SmIn Tri B W g S L w) (r : Ru) (e0 : Int) (h1 : rightS r = e0) (z1 : r.pa.length ≤ 1000000) (z2 : r.ap.length ≤ 1000000) :
    Calls Tryz.prog 14 #[.agg (ruC r)] w fun e w' => e = .returned (.int .i64 e0) ∧ SmIn Tri B W g S L w' ∧ Below w.heap.size w w' := by
  refine (C.right_ h.env r z1 z2).mono ?_
  rintro e w' ⟨rfl, hb⟩
  exact ⟨by rw [h1], h.on C hb, hb⟩
end
theorem srcs_new (w : World) (t : TypeId) (a b : ByteArray) : SrcS (w.alloc (.cells #[.string a, .string b] t)) (some ⟨w.heap.size, 0, none⟩) [a, b] := fun i s hs => by
  have hb := Blk.new w t #[.string a, .string b]
  match i, hs with
  | 0, hs => injection hs with hs; subst hs; exact ⟨_, 0, rfl, hb.lt, hb.cell 0⟩
  | 1, hs => injection hs with hs; subst hs; exact ⟨_, 0, rfl, hb.lt, hb.cell 1⟩
  | i + 2, hs => simp at hs
set_option linter.unusedSimpArgs false in
set_option maxRecDepth 100000 in
set_option maxHeartbeats 16000000 in
theorem small_any {Tri : World → Nat → List Nat → List Ru → Prop} (C : TrC Tri) : SmallP := by
  intro B W hE
  have HC := Lib.hid C
  have HE := Lib.hid hE
  have A1 : Hid (∀ (w : World) (g : Nat) (S : List Nat), SmIn Tri B W g S [] w → Calls Tryz.prog 21 #[.pointer (some ⟨g, 0, none⟩), .agg #[.bool false, .int .i64 0, .string ⟨#[42]⟩, .int .i64 0, .string ⟨#[]⟩]] w fun e w' => e = .returned (.int .i64 0) ∧ ∃ S', SmIn Tri B W g S' [q1] w') := Lib.hid (fun w g S h => sm_add HC.out h q1 0 (by kernel_rfl) (by kernel_rfl) (by decide) (by decide))
  have A2 : Hid (∀ (w : World) (g : Nat) (S : List Nat), SmIn Tri B W g S [q1] w → Calls Tryz.prog 21 #[.pointer (some ⟨g, 0, none⟩), .agg #[.bool true, .int .i64 0, .string ⟨#[42, 46, 97, 46, 98]⟩, .int .i64 0, .string ⟨#[]⟩]] w fun e w' => e = .returned (.int .i64 0) ∧ ∃ S', SmIn Tri B W g S' [q1, q2] w') := Lib.hid (fun w g S h => sm_add HC.out h q2 0 (by kernel_rfl) (by kernel_rfl) (by decide) (by decide))
  have A3 : Hid (∀ (w : World) (g : Nat) (S : List Nat), SmIn Tri B W g S [q1, q2] w → Calls Tryz.prog 21 #[.pointer (some ⟨g, 0, none⟩), .agg #[.bool false, .int .i64 0, .string ⟨#[42, 46, 97, 46, 98]⟩, .int .i64 0, .string ⟨#[]⟩]] w fun e w' => e = .returned (.int .i64 7) ∧ ∃ S', SmIn Tri B W g S' [q1, q2] w') := Lib.hid (fun w g S h => sm_add HC.out h q3 7 (by kernel_rfl) (by kernel_rfl) (by decide) (by decide))
  have A4 : Hid (∀ (w : World) (g : Nat) (S : List Nat), SmIn Tri B W g S [q1, q2] w → Calls Tryz.prog 21 #[.pointer (some ⟨g, 0, none⟩), .agg #[.bool false, .int .i64 0, .string ⟨#[120, 46, 97, 46, 98]⟩, .int .i64 80, .string ⟨#[104, 50]⟩]] w fun e w' => e = .returned (.int .i64 0) ∧ ∃ S', SmIn Tri B W g S' [q1, q2, q4] w') := Lib.hid (fun w g S h => sm_add HC.out h q4 0 (by kernel_rfl) (by kernel_rfl) (by decide) (by decide))
  have A5 : Hid (∀ (w : World) (g : Nat) (S : List Nat), SmIn Tri B W g S [q1, q2, q4] w → Calls Tryz.prog 21 #[.pointer (some ⟨g, 0, none⟩), .agg #[.bool false, .int .i64 0, .string ⟨#[65, 46, 98]⟩, .int .i64 0, .string ⟨#[]⟩]] w fun e w' => e = .returned (.int .i64 9) ∧ ∃ S', SmIn Tri B W g S' [q1, q2, q4] w') := Lib.hid (fun w g S h => sm_add HC.out h q5 9 (by kernel_rfl) (by kernel_rfl) (by decide) (by decide))
  have F1 : Hid (∀ (w : World) (g : Nat) (S : List Nat), SmIn Tri B W g S [q1, q2, q4] w → Calls Tryz.prog 23 #[.pointer (some ⟨g, 0, none⟩), .string ⟨#[120, 46, 97, 46, 98]⟩, .int .i64 443, .slice none 0 0] w fun e w' => e = .returned (.tuple #[.agg (ruC q2), .int .i64 1, .bool true]) ∧ SmIn Tri B W g S [q1, q2, q4] w' ∧ Below w.heap.size w w') := Lib.hid (fun w g S h => sm_find HC.out h ⟨#[120, 46, 97, 46, 98]⟩ 443 none 0 0 [] q2 1 (by kernel_rfl) (by decide) (by decide) rfl (by decide) (by decide) (SrcS.nil _ _))
  have F2 : Hid (∀ (w : World) (g : Nat) (S : List Nat), SmIn Tri B W g S [q1, q2, q4] w → Calls Tryz.prog 23 #[.pointer (some ⟨g, 0, none⟩), .string ⟨#[97, 46, 98]⟩, .int .i64 443, .slice none 0 0] w fun e w' => e = .returned (.tuple #[.agg (ruC q1), .int .i64 0, .bool true]) ∧ SmIn Tri B W g S [q1, q2, q4] w' ∧ Below w.heap.size w w') := Lib.hid (fun w g S h => sm_find HC.out h ⟨#[97, 46, 98]⟩ 443 none 0 0 [] q1 0 (by kernel_rfl) (by decide) (by decide) rfl (by decide) (by decide) (SrcS.nil _ _))
  have F3 : Hid (∀ (w : World) (g : Nat) (S : List Nat) (b : Nat), SmIn Tri B W g S [q1, q2, q4] w → SrcS w (some ⟨b, 0, none⟩) [⟨#[120]⟩, ⟨#[104, 50]⟩] → Calls Tryz.prog 23 #[.pointer (some ⟨g, 0, none⟩), .string ⟨#[120, 46, 97, 46, 98]⟩, .int .i64 80, .slice (some ⟨b, 0, none⟩) 2 2] w fun e w' => e = .returned (.tuple #[.agg (ruC q4), .int .i64 2, .bool true]) ∧ SmIn Tri B W g S [q1, q2, q4] w' ∧ Below w.heap.size w w') := Lib.hid (fun w g S b h hs => sm_find HC.out h ⟨#[120, 46, 97, 46, 98]⟩ 80 (some ⟨b, 0, none⟩) 2 2 [⟨#[120]⟩, ⟨#[104, 50]⟩] q4 2 (by kernel_rfl) (by decide) (by decide) rfl (by decide) (by decide) hs)
  have M1 : Hid (∀ (w : World) (g : Nat) (S : List Nat), SmIn Tri B W g S [q1, q2, q4] w → Calls Tryz.prog 16 #[.string ⟨#[42, 46, 97]⟩, .string ⟨#[98, 46, 97]⟩] w fun e w' => e = .returned (.bool true) ∧ SmIn Tri B W g S [q1, q2, q4] w' ∧ Below w.heap.size w w') := Lib.hid (fun w g S h => sm_match HC.out h ⟨#[42, 46, 97]⟩ ⟨#[98, 46, 97]⟩ true (by kernel_rfl) (by decide) (by decide))
  have M2 : Hid (∀ (w : World) (g : Nat) (S : List Nat), SmIn Tri B W g S [q1, q2, q4] w → Calls Tryz.prog 16 #[.string ⟨#[42, 46, 97]⟩, .string ⟨#[97]⟩] w fun e w' => e = .returned (.bool false) ∧ SmIn Tri B W g S [q1, q2, q4] w' ∧ Below w.heap.size w w') := Lib.hid (fun w g S h => sm_match HC.out h ⟨#[42, 46, 97]⟩ ⟨#[97]⟩ false (by kernel_rfl) (by decide) (by decide))
  have M3 : Hid (∀ (w : World) (g : Nat) (S : List Nat), SmIn Tri B W g S [q1, q2, q4] w → Calls Tryz.prog 16 #[.string ⟨#[42]⟩, .string ⟨#[]⟩] w fun e w' => e = .returned (.bool true) ∧ SmIn Tri B W g S [q1, q2, q4] w' ∧ Below w.heap.size w w') := Lib.hid (fun w g S h => sm_match HC.out h ⟨#[42]⟩ ⟨#[]⟩ true (by kernel_rfl) (by decide) (by decide))
  have R1 : Hid (∀ (w : World) (g : Nat) (S : List Nat), SmIn Tri B W g S [q1, q2, q4] w → Calls Tryz.prog 14 #[.agg #[.bool false, .int .i64 0, .string ⟨#[97]⟩, .int .i64 65536, .string ⟨#[]⟩]] w fun e w' => e = .returned (.int .i64 10) ∧ SmIn Tri B W g S [q1, q2, q4] w' ∧ Below w.heap.size w w') := Lib.hid (fun w g S h => sm_right HC.out h ⟨false, 0, [97], 65536, []⟩ 10 (by kernel_rfl) (by decide) (by decide))
  have R2 : Hid (∀ (w : World) (g : Nat) (S : List Nat), SmIn Tri B W g S [q1, q2, q4] w → Calls Tryz.prog 14 #[.agg #[.bool false, .int .i64 0, .string ⟨#[42, 46, 49, 46, 50, 46, 51, 46, 52]⟩, .int .i64 0, .string ⟨#[]⟩]] w fun e w' => e = .returned (.int .i64 9) ∧ SmIn Tri B W g S [q1, q2, q4] w' ∧ Below w.heap.size w w') := Lib.hid (fun w g S h => sm_right HC.out h ⟨false, 0, [42, 46, 49, 46, 50, 46, 51, 46, 52], 0, []⟩ 9 (by kernel_rfl) (by decide) (by decide))
  have HEB := Lib.hid (show B ≤ W.heap.size from hE.le)
  clear hE C
  go_enter Tryz.func13, Tryz.ntmps13
  go_wp2_with fail
  refine (HC.out.new_ W).mono ?_
  rintro e w0 ⟨g, S0, rfl, ht, hf, hb⟩
  have HI0 : Hid (SmIn Tri B W g S0 [] w0) := Lib.hid ⟨ht, hf, hb, HE.out.on hb, HEB.out⟩
  clear ht hf hb HE HEB
  go_wp2_with fail
  refine (A1.out _ g S0 HI0.out).mono ?_
  rintro e w1 ⟨rfl, S1, hi⟩
  have HI1 := Lib.hid hi
  clear hi HI0 A1
  go_wp2_with fail
  refine (A2.out _ g S1 HI1.out).mono ?_
  rintro e w2 ⟨rfl, S2, hi⟩
  have HI2 := Lib.hid hi
  clear hi HI1 A2
  go_wp2_with fail
  refine (A3.out _ g S2 HI2.out).mono ?_
  rintro e w3 ⟨rfl, S3, hi⟩
  have HI3 := Lib.hid hi
  clear hi HI2 A3
  go_wp2_with fail
  refine (A4.out _ g S3 HI3.out).mono ?_
  rintro e w4 ⟨rfl, S4, hi⟩
  have HI4 := Lib.hid hi
  clear hi HI3 A4
  go_wp2_with fail
  refine (A5.out _ g S4 HI4.out).mono ?_
  rintro e w5 ⟨rfl, S5, hi⟩
  have HI5 := Lib.hid hi
  clear hi HI4 A5
  go_wp2_with fail
  refine (F1.out _ g S5 HI5.out).mono ?_
  rintro e w6 ⟨rfl, hi, hb⟩
  have HI6 := Lib.hid hi
  clear hi hb HI5 F1 
  go_upto_region 10 with (refine go_st 23 (Blk.new _ _ _) infU rfl (ruC_size _) (ruC_one _) rfl rfl rfl rfl ?_)
  obtain ⟨hbA, hlA⟩ := ru_new w6 q2
  have HI7 := Lib.hid (HI6.out.on HC.out hlA)
  have HX0 := Lib.hid hbA
  clear hbA hlA HI6 
  obtain ⟨X0, hX⟩ : ∃ X, w6.heap.size = X := ⟨_, rfl⟩
  rw [hX] at HI7 HX0 ⊢
  clear hX
  generalize (w6.alloc (.cells zU 23)).setRow X0 (ruC q2) = w7 at *
  go_wp2_with fail
  refine (F2.out _ g S5 HI7.out).mono ?_
  rintro e w8 ⟨rfl, hi, hb⟩
  have HI8 := Lib.hid hi
  have HX0a := Lib.hid (HX0.out.below hb HX0.out.lt)
  clear hi hb HI7 F2 HX0
  go_upto_region 11 with (refine go_st 23 (Blk.new _ _ _) infU rfl (ruC_size _) (ruC_one _) rfl rfl rfl rfl ?_)
  obtain ⟨hbA, hlA⟩ := ru_new w8 q1
  have HI9 := Lib.hid (HI8.out.on HC.out hlA)
  have HX0ab := Lib.hid (HX0a.out.below hlA HX0a.out.lt)
  have HX1 := Lib.hid hbA
  clear hbA hlA HI8 HX0a
  obtain ⟨X1, hX⟩ : ∃ X, w8.heap.size = X := ⟨_, rfl⟩
  rw [hX] at HI9 HX0ab HX1 ⊢
  clear hX
  generalize (w8.alloc (.cells zU 23)).setRow X1 (ruC q1) = w9 at *
  go_wp2_with fail
  have hs9 := srcs_new w9 9 ⟨#[120]⟩ ⟨#[104, 50]⟩
  have hl9 : Below w9.heap.size w9 (w9.alloc (.cells #[.string ⟨#[120]⟩, .string ⟨#[104, 50]⟩] 9)) := (Below.refl _ _).alloc (Nat.le_refl _) _
  have HI99 := Lib.hid (HI9.out.on HC.out hl9)
  have HX0abz := Lib.hid (HX0ab.out.below hl9 HX0ab.out.lt)
  have HX1z := Lib.hid (HX1.out.below hl9 HX1.out.lt)
  have HS9 := Lib.hid hs9
  clear hs9 hl9 HI9 HX0ab HX1
  obtain ⟨b9, hb9⟩ : ∃ b, w9.heap.size = b := ⟨_, rfl⟩
  rw [hb9] at HS9 ⊢
  clear hb9
  generalize w9.alloc (.cells #[.string ⟨#[120]⟩, .string ⟨#[104, 50]⟩] 9) = w99 at *
  refine (F3.out _ g S5 b9 HI99.out HS9.out).mono ?_
  rintro e w10 ⟨rfl, hi, hb⟩
  have HI10 := Lib.hid hi
  have HX0abza := Lib.hid (HX0abz.out.below hb HX0abz.out.lt)
  have HX1za := Lib.hid (HX1z.out.below hb HX1z.out.lt)
  clear hi hb HI99 F3 HX0abz HX1z
  go_upto_region 12 with (refine go_st 23 (Blk.new _ _ _) infU rfl (ruC_size _) (ruC_one _) rfl rfl rfl rfl ?_)
  obtain ⟨hbA, hlA⟩ := ru_new w10 q4
  have HI11 := Lib.hid (HI10.out.on HC.out hlA)
  have HX0abzab := Lib.hid (HX0abza.out.below hlA HX0abza.out.lt)
  have HX1zab := Lib.hid (HX1za.out.below hlA HX1za.out.lt)
  have HX2 := Lib.hid hbA
  clear hbA hlA HI10 HX0abza HX1za
  obtain ⟨X2, hX⟩ : ∃ X, w10.heap.size = X := ⟨_, rfl⟩
  rw [hX] at HI11 HX0abzab HX1zab HX2 ⊢
  clear hX
  generalize (w10.alloc (.cells zU 23)).setRow X2 (ruC q4) = w11 at *
  have d0 : w11.cell? ⟨X0, 0, none⟩ = some (.bool true) := by rw [HX0abzab.out.cell]; rfl
  have d1 : w11.cell? ⟨X1, 2, none⟩ = some (.string ⟨#[42]⟩) := by rw [HX1zab.out.cell]; rfl
  have d2 : w11.cell? ⟨X2, 3, none⟩ = some (.int .i64 80) := by rw [HX2.out.cell]; rfl
  refine wp_region_lit ?_
  go_wp2_with fail
  clear d0 d1 d2
  refine (M1.out _ g S5 HI11.out).mono ?_
  rintro e w12 ⟨rfl, hi, hb⟩
  have HI12 := Lib.hid hi
  clear hi hb HI11 M1
  go_wp2_with fail
  refine (M2.out _ g S5 HI12.out).mono ?_
  rintro e w13 ⟨rfl, hi, hb⟩
  have HI13 := Lib.hid hi
  clear hi hb HI12 M2
  go_wp2_with fail
  refine (M3.out _ g S5 HI13.out).mono ?_
  rintro e w14 ⟨rfl, hi, hb⟩
  have HI14 := Lib.hid hi
  clear hi hb HI13 M3
  go_wp2_with fail
  refine (R1.out _ g S5 HI14.out).mono ?_
  rintro e w15 ⟨rfl, hi, hb⟩
  have HI15 := Lib.hid hi
  clear hi hb HI14 R1
  go_wp2_with fail
  refine (R2.out _ g S5 HI15.out).mono ?_
  rintro e w16 ⟨rfl, hi, hb⟩
  have HI16 := Lib.hid hi
  clear hi hb HI15 R2
  go_wp2_with fail
  refine (HC.out.rules_ HI16.out.t).mono ?_
  rintro e wz ⟨v, rfl, hv, hb⟩
  obtain ⟨A9, c9, rfl, _, _⟩ := hv.src
  have HIz := Lib.hid (HI16.out.on HC.out hb)
  have h3 : ([q1, q2, q4] : List Ru).length = 3 := rfl
  rw [h3]
  clear hv hb h3
  go_wp2_with fail
  go_ret
  exact ⟨rfl, HIz.out.bel⟩
end Go.Proofs.YtlpondbcnfaggaaGreatDoor.Tr
