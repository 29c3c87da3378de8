/-
  law10's small case over this seat's translation.
-/
import Derived.Test.YtajmdchidmamcaaExSee
namespace Go.Proofs.Ytajmdchidmamcaa.Ex
open Go.RowKit Go.Proofs.Ytajmdchidmamcaa.Wd Go.Proofs.Ytajmdchidmamcaa.Be Go.Proofs.Ytajmdchidmamcaa.He Go.Proofs.Ytajmdchidmamcaa.Ro

theorem name_is {A : Option Addr} {n c : Nat} {xs r : List UInt8} {z : Int} {w : World} (hs : Src w A n xs) (hn : n ≤ 140737488355320) (hp : nameS xs = (r, z)) :
    Calls Try.prog 10 #[.slice A n c] w fun e w' => e = .returned (.tuple #[.string (str8 r), .int .i64 z]) ∧ Below w.heap.size w w' := by
  have := name_any A n c xs w hs hn
  rwa [hp] at this
theorem protos_is {A : Option Addr} {n c : Nat} {xs : List UInt8} {l : List (List UInt8)} {z : Int} {w : World} (hs : Src w A n xs) (hn : n ≤ 140737488355320) (hp : protoS xs = (l, z)) :
    Calls Try.prog 12 #[.slice A n c] w fun e w' => ∃ v, e = .returned (.tuple #[v, .int .i64 z]) ∧ OwnE w' elS w.heap.size v l ∧ Below w.heap.size w w' := by
  have := protos_any A n c xs w hs hn
  rw [hp] at this
  exact this.mono fun e w' ⟨v, h1, h2, _, h3⟩ => ⟨v, h1, h2, h3⟩
theorem vers_is {A : Option Addr} {n c : Nat} {xs : List UInt8} {l : List Int} {z : Int} {w : World} (hs : Src w A n xs) (hn : n ≤ 140737488355320) (hp : verS xs = (l, z)) :
    Calls Try.prog 14 #[.slice A n c] w fun e w' => ∃ v, e = .returned (.tuple #[v, .int .i64 z]) ∧ OwnE w' elI w.heap.size v l ∧ Below w.heap.size w w' := by
  have := vers_any A n c xs w hs hn
  rw [hp] at this
  exact this.mono fun e w' ⟨v, h1, h2, _, h3⟩ => ⟨v, h1, h2, h3⟩
/-- bytes that were written out -/
theorem lit_src (w : World) (C : Array Value) (xs : List UInt8) (h : C = (cellsOf xs).toArray) : Src (w.alloc (.cells C 5)) (some ⟨w.heap.size, 0, none⟩) xs.length xs := Src.marked w C _ (0, 0) xs h
/-- an empty hello but for its extensions -/
def Hx (xA : Option Addr) (xc : Nat) (xs : List Xt) : Hv := { Hv.zero with xA := xA, xc := xc, xs := xs }
theorem builtHx (xA : Option Addr) (xc n : Nat) (xs : List Xt) (hn : xs.length = n) : Try.prog.built 44 [(6, Value.slice xA n xc)] = some (Hx xA xc xs).C := by
  subst hn
  kernel_rfl
theorem go_bdX {ops : Array Oper} {rest : List Oper} {o : Oper} {a : Act} {w : World} {Q : Exit → Act → World → Prop} {x : Operand} (xA : Option Addr) (xc n : Nat) (xs : List Xt) (hn : xs.length = n) (hg : o.guard = none) (ho : o.op = .build 44 #[(6, x)])
    (hx : a.eval x = .slice xA n xc) (h : wpList Try.prog ops Q rest (a.put o.dst (.agg (Hx xA xc xs).C)) w) : wpList Try.prog ops Q (o :: rest) a w := by
  have e : Try.prog.built 44 ((#[(6, x)] : Array (Nat × Operand)).map fun (i, x) => (i, a.eval x)).toList = some (Hx xA xc xs).C := by
    simp only [List.map_toArray, List.map_cons, List.map_nil, hx]
    exact builtHx xA xc n xs hn
  refine wpList_build hg _ _ ho (by rw [e]; rfl) ?_
  rw [e]
  exact h
theorem Hx.ok {w : World} {xA : Option Addr} {xc : Nat} {xs : List Xt} (hx : SrcX w xA xs) (hl : xs.length ≤ xc) (hm : xs.length ≤ 140737488351232) : (Hx xA xc xs).Ok w :=
  ⟨by show (-9223372036854775808 : Int) ≤ 0 ∧ (0 : Int) ≤ _; omega, rfl, ⟨Nat.le_refl _, Nat.zero_le _⟩, Src.nil w, ⟨Nat.le_refl _, Nat.zero_le _⟩, fun _ h => absurd h List.not_mem_nil, SrcI.nil w _, ⟨Nat.le_refl _, Nat.zero_le _⟩, Src.nil w, ⟨hl, hm⟩, hx⟩

set_option maxRecDepth 100000 in
set_option maxHeartbeats 4000000 in
theorem small_any (w : World) : Calls Try.prog 9 #[] w fun e w' => e = .returned (.bool true) ∧ Below w.heap.size w w' := by
  go_enter Try.func9, Try.ntmps9
  go_wp2_with fail
  refine (name_is (lit_src w _ [0, 4, 0, 0, 1, 97] rfl) (by decide) (show nameS _ = ([97], 0) by kernel_rfl)).mono ?_
  rintro e w1 ⟨rfl, hb⟩
  have HS1 := Lib.hid (show Below w.heap.size w w1 from ((Below.refl w.heap.size w).alloc (Nat.le_refl _) _).trans (hb.mono (by simp)))
  have HB1 := Lib.hid HS1.out
  clear hb HS1
  go_wp2_with fail
  refine (name_is (lit_src w1 _ [0, 8, 0, 0, 1, 97, 0, 0, 1, 98] rfl) (by decide) (show nameS _ = ([], 7) by kernel_rfl)).mono ?_
  rintro e w2 ⟨rfl, hb⟩
  have HS2 := Lib.hid (show Below w1.heap.size w1 w2 from ((Below.refl w1.heap.size w1).alloc (Nat.le_refl _) _).trans (hb.mono (by simp)))
  have HB2 := Lib.hid (HB1.out.trans (HS2.out.mono HB1.out.size))
  clear HB1
  clear hb HS2
  go_wp2_with fail
  refine (name_is (lit_src w2 _ [0, 4, 1, 0, 1, 97] rfl) (by decide) (show nameS _ = ([], 8) by kernel_rfl)).mono ?_
  rintro e w3 ⟨rfl, hb⟩
  have HS3 := Lib.hid (show Below w2.heap.size w2 w3 from ((Below.refl w2.heap.size w2).alloc (Nat.le_refl _) _).trans (hb.mono (by simp)))
  have HB3 := Lib.hid (HB2.out.trans (HS3.out.mono HB2.out.size))
  clear HB2
  clear hb HS3
  go_wp2_with fail
  refine (name_is (lit_src w3 _ [0, 4, 0, 0, 1, 32] rfl) (by decide) (show nameS _ = ([], 9) by kernel_rfl)).mono ?_
  rintro e w4 ⟨rfl, hb⟩
  have HS4 := Lib.hid (show Below w3.heap.size w3 w4 from ((Below.refl w3.heap.size w3).alloc (Nat.le_refl _) _).trans (hb.mono (by simp)))
  have HB4 := Lib.hid (HB3.out.trans (HS4.out.mono HB3.out.size))
  clear HB3
  clear hb HS4
  go_wp2_with fail
  refine (name_is (lit_src w4 _ [0, 0] rfl) (by decide) (show nameS _ = ([], 3) by kernel_rfl)).mono ?_
  rintro e w5 ⟨rfl, hb⟩
  have HS5 := Lib.hid (show Below w4.heap.size w4 w5 from ((Below.refl w4.heap.size w4).alloc (Nat.le_refl _) _).trans (hb.mono (by simp)))
  have HB5 := Lib.hid (HB4.out.trans (HS5.out.mono HB4.out.size))
  clear HB4
  clear hb HS5
  go_wp2_with fail
  refine (protos_is (lit_src w5 _ [0, 5, 2, 104, 50, 1, 120] rfl) (by decide) (show protoS _ = ([[104, 50], [120]], 0) by kernel_rfl)).mono ?_
  rintro e w6 ⟨v, rfl, ho, hb⟩
  have HS6 := Lib.hid (show Below w5.heap.size w5 w6 from ((Below.refl w5.heap.size w5).alloc (Nat.le_refl _) _).trans (hb.mono (by simp)))
  have HB6 := Lib.hid (HB5.out.trans (HS6.out.mono HB5.out.size))
  clear HB5
  obtain ⟨AL, cL, rfl⟩ := OwnE.form ho
  have HL6 := Lib.hid ho
  clear hb HS6 ho
  go_wp2_with fail
  refine (protos_is (lit_src w6 _ [0, 1, 0] rfl) (by decide) (show protoS _ = ([], 3) by kernel_rfl)).mono ?_
  rintro e w7 ⟨v, rfl, ho, hb⟩
  have HS7 := Lib.hid (show Below w6.heap.size w6 w7 from ((Below.refl w6.heap.size w6).alloc (Nat.le_refl _) _).trans (hb.mono (by simp)))
  have HB7 := Lib.hid (HB6.out.trans (HS7.out.mono HB6.out.size))
  clear HB6
  have HL7 := Lib.hid (HL6.out.below HS7.out)
  clear HL6
  obtain ⟨_, _, rfl⟩ := OwnE.form ho
  clear hb HS7 ho
  go_wp2_with fail
  refine (vers_is (lit_src w7 _ [4, 3, 4, 3, 3] rfl) (by decide) (show verS _ = ([772, 771], 0) by kernel_rfl)).mono ?_
  rintro e w8 ⟨v, rfl, ho, hb⟩
  have HS8 := Lib.hid (show Below w7.heap.size w7 w8 from ((Below.refl w7.heap.size w7).alloc (Nat.le_refl _) _).trans (hb.mono (by simp)))
  have HB8 := Lib.hid (HB7.out.trans (HS8.out.mono HB7.out.size))
  clear HB7
  have HL8 := Lib.hid (HL7.out.below HS8.out)
  clear HL7
  obtain ⟨AV, cV, rfl⟩ := OwnE.form ho
  have HV8 := Lib.hid ho
  clear hb HS8 ho
  go_wp2_with fail
  refine (vers_is (lit_src w8 _ [3, 3, 4, 3] rfl) (by decide) (show verS _ = ([], 3) by kernel_rfl)).mono ?_
  rintro e w9 ⟨v, rfl, ho, hb⟩
  have HS9 := Lib.hid (show Below w8.heap.size w8 w9 from ((Below.refl w8.heap.size w8).alloc (Nat.le_refl _) _).trans (hb.mono (by simp)))
  have HB9 := Lib.hid (HB8.out.trans (HS9.out.mono HB8.out.size))
  clear HB8
  have HL9 := Lib.hid (HL8.out.below HS9.out)
  clear HL8
  have HV9 := Lib.hid (HV8.out.below HS9.out)
  clear HV8
  obtain ⟨_, _, rfl⟩ := OwnE.form ho
  clear hb HS9 ho
  have HX := Lib.hid (show SrcX ((w9.alloc (.cells #[.int .u8 0, .int .u8 4, .int .u8 0, .int .u8 0, .int .u8 1, .int .u8 97] 5)).alloc (.cells #[.int .i64 65037, .slice none 0 0, .int .i64 0, .slice (some ⟨w9.heap.size, 0, none⟩) 6 6] 53)) (some ⟨w9.heap.size + 1, 0, none⟩) [⟨65037, none, 0, 0, []⟩, ⟨0, some ⟨w9.heap.size, 0, none⟩, 6, 6, [0, 4, 0, 0, 1, 97]⟩] from by
    have hs := (lit_src w9 #[.int .u8 0, .int .u8 4, .int .u8 0, .int .u8 0, .int .u8 1, .int .u8 97] [0, 4, 0, 0, 1, 97] rfl).alloc (.cells #[.int .i64 65037, .slice none 0 0, .int .i64 0, .slice (some ⟨w9.heap.size, 0, none⟩) 6 6] 53)
    have hb := blk_at (w9.alloc (.cells #[.int .u8 0, .int .u8 4, .int .u8 0, .int .u8 0, .int .u8 1, .int .u8 97] 5)) 53 #[.int .i64 65037, .slice none 0 0, .int .i64 0, .slice (some ⟨w9.heap.size, 0, none⟩) 6 6] _ (w9.heap.size + 1) (by rw [alloc_size]) rfl
    intro i x hx
    match i with
    | 0 =>
      have e : x = ⟨65037, none, 0, 0, []⟩ := by simpa using hx.symm
      subst e
      exact ⟨⟨by show (-9223372036854775808 : Int) ≤ 65037 ∧ (65037 : Int) ≤ _; omega, Nat.le_refl _, Src.nil _, Nat.zero_le _⟩, _, 0, rfl, hb.lt, by rw [hb.cell]; rfl, by rw [hb.cell]; rfl⟩
    | 1 =>
      have e : x = ⟨0, some ⟨w9.heap.size, 0, none⟩, 6, 6, [0, 4, 0, 0, 1, 97]⟩ := by simpa using hx.symm
      subst e
      exact ⟨⟨by show (-9223372036854775808 : Int) ≤ 0 ∧ (0 : Int) ≤ _; omega, Nat.le_refl _, hs, by show 6 ≤ _; omega⟩, _, 0, rfl, hb.lt, by rw [hb.cell]; rfl, by rw [hb.cell]; rfl⟩
    | i + 2 => simp at hx)
  have HD := Lib.hid (show Below w9.heap.size w9 ((w9.alloc (.cells #[.int .u8 0, .int .u8 4, .int .u8 0, .int .u8 0, .int .u8 1, .int .u8 97] 5)).alloc (.cells #[.int .i64 65037, .slice none 0 0, .int .i64 0, .slice (some ⟨w9.heap.size, 0, none⟩) 6 6] 53)) from ((Below.refl _ _).alloc (Nat.le_refl _) _).alloc (by simp) _)
  go_wp2_with (refine go_bdX (some ⟨w9.heap.size + 1, 0, none⟩) 2 2 [⟨65037, none, 0, 0, []⟩, ⟨0, some ⟨w9.heap.size, 0, none⟩, 6, 6, [0, 4, 0, 0, 1, 97]⟩] rfl rfl rfl rfl ?_)
  refine (see_any (Hx (some ⟨w9.heap.size + 1, 0, none⟩) 2 [⟨65037, none, 0, 0, []⟩, ⟨0, some ⟨w9.heap.size, 0, none⟩, 6, 6, [0, 4, 0, 0, 1, 97]⟩]) _ (Hx.ok HX.out (Nat.le_refl _) (by show 2 ≤ _; omega))).mono ?_
  rintro e w10 ⟨va, vv, rfl, ha, hv, hb⟩
  have hsee : seeS (Hx (some ⟨w9.heap.size + 1, 0, none⟩) 2 [⟨65037, none, 0, 0, []⟩, ⟨0, some ⟨w9.heap.size, 0, none⟩, 6, 6, [0, 4, 0, 0, 1, 97]⟩]).hel.exts = (⟨true, [97], [], [], true⟩, 0) := by kernel_rfl
  rw [hsee] at ha hv ⊢
  obtain ⟨Aa, ca, rfl⟩ := OwnE.form ha.1
  obtain ⟨Av, cv, rfl⟩ := OwnE.form hv.1
  have HS := Lib.hid (HD.out.trans (hb.mono HD.out.size))
  have HB := Lib.hid (HB9.out.trans (HS.out.mono HB9.out.size))
  have HL := Lib.hid (HL9.out.below HS.out)
  have HV := Lib.hid (HV9.out.below HS.out)
  clear hb HD HX ha hv hsee HB9 HL9 HV9 HS
  unfold snC
  simp only
  go_upto_region 11 with fail
  have HW := Lib.hid ((Below.refl w10.heap.size w10).alloc (Nat.le_refl _) (.cells #[.bool true, .string (str8 [97]), .slice Aa 0 ca, .slice Av 0 cv, .bool true] 47))
  have hbk := Blk.new w10 47 #[.bool true, .string (str8 [97]), .slice Aa 0 ca, .slice Av 0 cv, .bool true]
  have HB2 := Lib.hid (HB.out.trans (HW.out.mono HB.out.size))
  have HL2 := Lib.hid (HL.out.below HW.out)
  have HV2 := Lib.hid (HV.out.below HW.out)
  clear HL HV HB HW
  have hs97 : str8 [97] = ⟨#[97]⟩ := rfl
  rw [hs97] at hbk HB2 HL2 HV2 ⊢
  generalize w10.alloc (.cells #[.bool true, .string ⟨#[97]⟩, .slice Aa 0 ca, .slice Av 0 cv, .bool true] 47) = w11 at *
  have k0 : w11.cell? ⟨w10.heap.size, 0, none⟩ = some (.bool true) := by rw [hbk.cell]; rfl
  have k1 : w11.cell? ⟨w10.heap.size, 1, none⟩ = some (.string ⟨#[97]⟩) := by rw [hbk.cell]; rfl
  have k4 : w11.cell? ⟨w10.heap.size, 4, none⟩ = some (.bool true) := by rw [hbk.cell]; rfl
  obtain ⟨A0, c0, e0, _, _, hsl⟩ := HL2.out.src fineS
  injection e0 with e1 e2 e3
  subst e1
  obtain ⟨A1, c1, e0, _, _, hsv⟩ := HV2.out.src fineI
  injection e0 with e1 e4 e5
  subst e1
  obtain ⟨g1, o1, rfl, _, hc1⟩ := hsl 0 [104, 50] rfl
  obtain ⟨g1', o1', e1, _, hc2⟩ := hsl 1 [120] rfl
  injection e1 with e1
  injection e1 with e1 e6
  subst e1 e6
  obtain ⟨g2, o2, rfl, _, hc3⟩ := hsv 0 772 rfl
  have l0 : w11.cell? ⟨g1, o1, none⟩ = some (.string ⟨#[104, 50]⟩) := by have := hc1 0 _ rfl; simpa [elS, str8] using this
  have l1 : w11.cell? ⟨g1, o1 + 1, none⟩ = some (.string ⟨#[120]⟩) := by have := hc2 0 _ rfl; simpa [elS, str8] using this
  have v0 : w11.cell? ⟨g2, o2, none⟩ = some (.int .i64 772) := by have := hc3 0 _ rfl; simpa [elI] using this
  clear hc1 hc2 hc3 hsl hsv hbk e2 e3 e4 e5 hs97 HL2 HV2
  go_wp2_with fail
  go_ret
  exact ⟨rfl, HB2.out⟩
end Go.Proofs.Ytajmdchidmamcaa.Ex
