/-
  law12's small case over this seat's translation.
-/
import Derived.Test.YtkbankjnfedkdaaFdRFind
namespace Go.Proofs.Ytkbankjnfedkdaa.Fd
open Go.RowKit Go.Proofs.Ytkbankjnfedkdaa.Wd Go.Proofs.Ytkbankjnfedkdaa.Asc Go.Proofs.Ytkbankjnfedkdaa.Tx Go.Proofs.Ytkbankjnfedkdaa.St

abbrev F1 : Fld := ⟨[104, 111, 115, 116], [97, 32, 98]⟩
abbrev F2 : Fld := ⟨[72, 111, 115, 116], []⟩
abbrev G1 : Fld := ⟨[97], [49]⟩
abbrev G2 : Fld := ⟨[98], []⟩
abbrev G3 : Fld := ⟨[97], [50]⟩
theorem par_is {N : Nat} (l : List UInt8) (S : ByteArray) (hS : S = str l) (p : Fld × Int) (hp : parseS l = p) (hl : l.length < 4294967281) (w : World) (hE : Env N w) :
    Calls Try.prog 9 #[.string S] w (ParP p w) := by subst hS hp; exact parse_any l w hE hl
/-- three fields, one behind the other, in a new block -/
theorem src_three (w : World) (a b c : Fld) : SrcF (w.alloc (.cells #[.string (str a.name), .string (str a.text), .string (str b.name), .string (str b.text), .string (str c.name), .string (str c.text)] 24)) (some ⟨w.heap.size, 0, none⟩) [a, b, c] := by
  intro i f hf
  have hb := Blk.new w 24 #[.string (str a.name), .string (str a.text), .string (str b.name), .string (str b.text), .string (str c.name), .string (str c.text)]
  match i, hf with
  | 0, hf => injection hf with hf; subst hf; exact ⟨_, 0, rfl, hb.lt, by rw [hb.cell]; rfl, by rw [hb.cell]; rfl⟩
  | 1, hf => injection hf with hf; subst hf; exact ⟨_, 0, rfl, hb.lt, by rw [hb.cell]; rfl, by rw [hb.cell]; rfl⟩
  | 2, hf => injection hf with hf; subst hf; exact ⟨_, 0, rfl, hb.lt, by rw [hb.cell]; rfl, by rw [hb.cell]; rfl⟩
  | i + 3, hf => simp at hf

set_option maxRecDepth 100000 in
set_option maxHeartbeats 8000000 in
theorem small_any {N : Nat} (w : World) (hE : Env N w) : Calls Try.prog 8 #[] w fun e w' => e = .returned (.bool true) ∧ Below w.heap.size w w' := by
  have P1 := Lib.hid (fun w hE => par_is (N := N) [72, 111, 115, 116, 58, 32, 9, 32, 97, 32, 98, 32] ⟨#[72, 111, 115, 116, 58, 32, 9, 32, 97, 32, 98, 32]⟩ rfl (F1, 0) (by kernel_rfl) (by decide) w hE)
  have P2 := Lib.hid (fun w hE => par_is (N := N) [72, 111, 32, 115, 116, 58, 32, 97] ⟨#[72, 111, 32, 115, 116, 58, 32, 97]⟩ rfl (Fld.zero, 9) (by kernel_rfl) (by decide) w hE)
  have P3 := Lib.hid (fun w hE => par_is (N := N) [97] ⟨#[97]⟩ rfl (Fld.zero, 9) (by kernel_rfl) (by decide) w hE)
  have P4 := Lib.hid (fun w hE => par_is (N := N) [97, 58, 32, 1] ⟨#[97, 58, 32, 1]⟩ rfl (Fld.zero, 3) (by kernel_rfl) (by decide) w hE)
  have HP1 : Hid (printS F1 = some [104, 111, 115, 116, 58, 32, 97, 32, 98]) := Lib.hid (by kernel_rfl)
  have HP2 : Hid (printS F2 = none) := Lib.hid (by kernel_rfl)
  have PP1 := Lib.hid (fun w hE => print_any (N := N) F1 w hE (by decide) (by decide))
  have PP2 := Lib.hid (fun w hE => print_any (N := N) F2 w hE (by decide) (by decide))
  rw [HP1.out] at PP1
  rw [HP2.out] at PP2
  have HN1 : Hid (findS ((bs ⟨#[65]⟩).map lowB) [G1, G2, G3] = ([49], 2)) := Lib.hid (by kernel_rfl)
  have HN2 : Hid (findS ((bs ⟨#[97]⟩).map lowB) [] = ([], 0)) := Lib.hid (by kernel_rfl)
  have B1 := Lib.hid (show Try.prog.built 24 [(0, .string ⟨#[104, 111, 115, 116]⟩), (1, .string ⟨#[97, 32, 98]⟩)] = some (fdC F1) by kernel_rfl)
  have B2 := Lib.hid (show Try.prog.built 24 [(0, .string ⟨#[72, 111, 115, 116]⟩)] = some (fdC F2) by kernel_rfl)
  have E0 := Lib.hid hE
  have L0 := Lib.hid (Below.refl w.heap.size w)
  clear hE
  go_enter Try.func8, Try.ntmps8
  go_wp2_with fail
  refine (P1.out w E0.out).mono ?_
  rintro e v1 ⟨rfl, hb⟩
  have L1a := Lib.hid (L0.out.trans (hb.mono L0.out.size))
  clear hb P1
  go_upto_region 2 with (refine go_st 24 (Blk.new _ _ _) infF rfl rfl (fdC_one _) rfl rfl rfl rfl ?_)
  obtain ⟨hk, hb⟩ := st_new v1 F1
  have L1 := Lib.hid (L1a.out.trans (hb.mono L1a.out.size))
  have E1 := Lib.hid (E0.out.on L1.out)
  have K1 := Lib.hid hk
  clear hk hb L1a L0
  generalize (v1.alloc (.cells #[.string ⟨#[]⟩, .string ⟨#[]⟩] 24)).setRow v1.heap.size (fdC F1) = u1 at *
  generalize v1.heap.size = g at *
  go_wp2_with fail
  refine (P2.out u1 E1.out).mono ?_
  rintro e v2 ⟨rfl, hb⟩
  have L2a := Lib.hid (L1.out.trans (hb.mono L1.out.size))
  have K2a := Lib.hid (K1.out.below hb K1.out.lt)
  clear hb P2
  go_upto_region 3 with (refine go_st 24 (Blk.new _ _ _) infF rfl rfl (fdC_one _) rfl rfl rfl rfl ?_)
  obtain ⟨hk, hb⟩ := st_new v2 Fld.zero
  have L2 := Lib.hid (L2a.out.trans (hb.mono L2a.out.size))
  have E2 := Lib.hid (E0.out.on L2.out)
  have K2 := Lib.hid (K2a.out.below hb K2a.out.lt)
  clear hk hb L2a L1 K2a K1
  generalize (v2.alloc (.cells #[.string ⟨#[]⟩, .string ⟨#[]⟩] 24)).setRow v2.heap.size (fdC Fld.zero) = u2 at *
  go_wp2_with fail
  refine (P3.out u2 E2.out).mono ?_
  rintro e v3 ⟨rfl, hb⟩
  have L3a := Lib.hid (L2.out.trans (hb.mono L2.out.size))
  have K3a := Lib.hid (K2.out.below hb K2.out.lt)
  clear hb P3
  go_upto_region 4 with (refine go_st 24 (Blk.new _ _ _) infF rfl rfl (fdC_one _) rfl rfl rfl rfl ?_)
  obtain ⟨hk, hb⟩ := st_new v3 Fld.zero
  have L3 := Lib.hid (L3a.out.trans (hb.mono L3a.out.size))
  have E3 := Lib.hid (E0.out.on L3.out)
  have K3 := Lib.hid (K3a.out.below hb K3a.out.lt)
  clear hk hb L3a L2 K3a K2
  generalize (v3.alloc (.cells #[.string ⟨#[]⟩, .string ⟨#[]⟩] 24)).setRow v3.heap.size (fdC Fld.zero) = u3 at *
  go_wp2_with fail
  refine (P4.out u3 E3.out).mono ?_
  rintro e v4 ⟨rfl, hb⟩
  have L4a := Lib.hid (L3.out.trans (hb.mono L3.out.size))
  have K4a := Lib.hid (K3.out.below hb K3.out.lt)
  clear hb P4
  go_upto_region 5 with (refine go_st 24 (Blk.new _ _ _) infF rfl rfl (fdC_one _) rfl rfl rfl rfl ?_)
  obtain ⟨hk, hb⟩ := st_new v4 Fld.zero
  have L4 := Lib.hid (L4a.out.trans (hb.mono L4a.out.size))
  have E4 := Lib.hid (E0.out.on L4.out)
  have K4 := Lib.hid (K4a.out.below hb K4a.out.lt)
  clear hk hb L4a L3 K4a K3
  generalize (v4.alloc (.cells #[.string ⟨#[]⟩, .string ⟨#[]⟩] 24)).setRow v4.heap.size (fdC Fld.zero) = u4 at *
  have k4 := K4.out
  have hz : (fdC F1).size = 2 := rfl
  go_wp2_with (refine go_ldg (x := .tmp 1) 24 k4 undF rfl infF hz (by rfl) rfl rfl ?_)
  refine (PP1.out u4 E4.out).mono ?_
  rintro e u5 ⟨rfl, hb⟩
  have L5 := Lib.hid (L4.out.trans (hb.mono L4.out.size))
  have K5 := Lib.hid (K4.out.below hb K4.out.lt)
  have E5 := Lib.hid (E0.out.on L5.out)
  clear hb k4 K4 L4 PP1
  unfold optT
  go_wp2_with (refine go_bdF _ F2 B2.out (by rfl) rfl (by simp only [List.map_toArray, List.map_cons, List.map_nil]; rfl) ?_)
  refine (PP2.out u5 E5.out).mono ?_
  rintro e u6 ⟨rfl, hb⟩
  have L6 := Lib.hid (L5.out.trans (hb.mono L5.out.size))
  have K6 := Lib.hid (K5.out.below hb K5.out.lt)
  clear hb K5 L5 PP2
  unfold optT
  go_wp2_with fail
  have SF : SrcF (u6.alloc (.cells #[.string ⟨#[97]⟩, .string ⟨#[49]⟩, .string ⟨#[98]⟩, .string ⟨#[]⟩, .string ⟨#[97]⟩, .string ⟨#[50]⟩] 24)) (some ⟨u6.heap.size, 0, none⟩) [G1, G2, G3] := src_three u6 G1 G2 G3
  have hb : Below u6.heap.size u6 (u6.alloc (.cells #[.string ⟨#[97]⟩, .string ⟨#[49]⟩, .string ⟨#[98]⟩, .string ⟨#[]⟩, .string ⟨#[97]⟩, .string ⟨#[50]⟩] 24)) := (Below.refl _ _).alloc (Nat.le_refl _) _
  have L7a := Lib.hid (L6.out.trans (hb.mono L6.out.size))
  have K7a := Lib.hid (K6.out.below hb K6.out.lt)
  clear hb K6 L6
  generalize u6.alloc (.cells #[.string ⟨#[97]⟩, .string ⟨#[49]⟩, .string ⟨#[98]⟩, .string ⟨#[]⟩, .string ⟨#[97]⟩, .string ⟨#[50]⟩] 24) = u7 at *
  refine (find_any [G1, G2, G3] _ 3 3 ⟨#[65]⟩ u7 SF rfl (by decide) (by decide)).mono ?_
  rintro e v7 ⟨rfl, hb⟩
  have L7 := Lib.hid (L7a.out.trans (hb.mono L7a.out.size))
  have K7 := Lib.hid (K7a.out.below hb K7a.out.lt)
  clear hb K7a L7a SF
  rw [HN1.out]
  go_wp2_with fail
  refine (find_any [] none 0 0 ⟨#[97]⟩ v7 (SrcF.nil _ _) rfl (by decide) (by decide)).mono ?_
  rintro e v8 ⟨rfl, hb⟩
  have L8 := Lib.hid (L7.out.trans (hb.mono L7.out.size))
  have K8 := Lib.hid (K7.out.below hb K7.out.lt)
  clear hb K7 L7
  rw [HN2.out]
  have k8 := K8.out
  go_wp2_with (first | (refine go_ldg (x := .tmp 1) 24 k8 undF rfl infF hz (by rfl) rfl rfl ?_) | (refine go_bdF _ F1 B1.out (by rfl) rfl (by simp only [List.map_toArray, List.map_cons, List.map_nil]; rfl) ?_; refine Hid.out ?_))
  refine Lib.hid ?_
  refine go_eqlF (x := .tmp 55) (y := .tmp 56) (t := 24) F1 F1 true (by decide) rfl (by rfl) rfl rfl ?_
  go_wp2_with fail
  go_ret
  exact ⟨rfl, L8.out⟩
end Go.Proofs.Ytkbankjnfedkdaa.Fd
