/-
  law13's small case over this seat's translation.
-/
import Derived.Test.YtgpgkfbbpiialaaGreatDoorMPr
import Derived.Test.YtgpgkfbbpiialaaGreatDoorMOf
import Derived.Test.YtgpgkfbbpiialaaGreatDoorMRl
import Derived.Test.YtgpgkfbbpiialaaGreatDoorMFd
namespace Go.Proofs.YtgpgkfbbpiialaaGreatDoor.Au
open Go.RowKit Go.Proofs.YtgpgkfbbpiialaaGreatDoor.Wd Go.Proofs.YtgpgkfbbpiialaaGreatDoor.Asc Go.Proofs.YtgpgkfbbpiialaaGreatDoor.Tx Go.Proofs.YtgpgkfbbpiialaaGreatDoor.St

abbrev R1 : Rl.Rq := ⟨[71, 69, 84], [104, 116, 116, 112, 58, 47, 47, 120, 58, 49, 47, 121], 0⟩
abbrev R2 : Rl.Rq := ⟨[71, 69, 84], [47], 0⟩
abbrev R4 : Rl.Rq := ⟨[67, 79, 78, 78, 69, 67, 84], [97, 58, 49], 0⟩
abbrev FZ : Fd.Fld := ⟨hostN, [122]⟩
theorem par_is {B : Nat} (l : List UInt8) (S : ByteArray) (hS : S = str l) (H : ByteArray) (h : List UInt8) (hH : str h = H) (p e : Int) (hq : parseS l = (h, p, e)) (hl : l.length < 4294967281) (w : World) (hE : Ad.Env B w) :
    Calls Tryz.prog 9 #[.string S] w fun x w' => x = .returned (.tuple #[.string H, .int .i64 p, .int .i64 e]) ∧ Below w.heap.size w w' := by
  subst hS hH
  have h := parse_any (B := B) (str l) w hE (by rw [str_size]; exact hl)
  rw [bs_str, hq] at h
  exact h
theorem of_is {B : Nat} (r : Rl.Rq) (l : List Fd.Fld) (A : Option Addr) (n cap : Nat) (hn : l.length = n) (H : ByteArray) (h : List UInt8) (hH : str h = H) (p e : Int) (hq : ofS r l = (h, p, e)) (hm : n ≤ 1000000) (ht : r.targ.length ≤ 1000000)
    (hM : (Fd.findS hostN l).1.length ≤ 1000000) (w : World) (hE : Ad.Env B w) (hs : Fd.SrcF w A l) :
    Calls Tryz.prog 7 #[.agg (Rl.rqC r), .slice A n cap] w fun x w' => x = .returned (.tuple #[.string H, .int .i64 p, .int .i64 e]) ∧ Below w.heap.size w w' := by
  subst hH
  have h := of_any (B := B) r l A n cap w hE hs hn hm ht hM
  rw [hq] at h
  exact h
theorem txt443 : txtL 443 = [52, 52, 51] := by
  rw [txt_more 443 (by decide), txt_more (443 / 10) (by decide), txt_one (443 / 10 / 10) (by decide)]
  decide
theorem line443 : lineS [58, 58, 49] 443 = [91, 58, 58, 49, 93, 58, 52, 52, 51] := by
  unfold lineS tailS
  rw [if_neg (by decide), show (443 : Int).toNat = 443 from rfl, txt443]
  decide

set_option maxRecDepth 100000 in
set_option maxHeartbeats 8000000 in
theorem small_any {B : Nat} (w : World) (hE : Ad.Env B w) : Calls Tryz.prog 4 #[] w fun e w' => e = .returned (.bool true) ∧ Below w.heap.size w w' := by
  have P1 := Lib.hid (fun w hE => par_is (B := B) [97, 46, 98, 58, 56, 48] ⟨#[97, 46, 98, 58, 56, 48]⟩ rfl ⟨#[97, 46, 98]⟩ [97, 46, 98] rfl 80 0 (by kernel_rfl) (by decide) w hE)
  have P2 := Lib.hid (fun w hE => par_is (B := B) [91, 48, 58, 58, 49, 93] ⟨#[91, 48, 58, 58, 49, 93]⟩ rfl ⟨#[58, 58, 49]⟩ [58, 58, 49] rfl 0 0 (by kernel_rfl) (by decide) w hE)
  have P3 := Lib.hid (fun w hE => par_is (B := B) [97, 58, 48] ⟨#[97, 58, 48]⟩ rfl ⟨#[]⟩ [] rfl 0 10 (by kernel_rfl) (by decide) w hE)
  have P4 := Lib.hid (fun w hE => par_is (B := B) [117, 64, 97] ⟨#[117, 64, 97]⟩ rfl ⟨#[]⟩ [] rfl 0 3 (by kernel_rfl) (by decide) w hE)
  have P5 := Lib.hid (fun w hE => par_is (B := B) [91, 49, 46, 50, 46, 51, 46, 52, 93] ⟨#[91, 49, 46, 50, 46, 51, 46, 52, 93]⟩ rfl ⟨#[]⟩ [] rfl 0 3 (by kernel_rfl) (by decide) w hE)
  have P6 := Lib.hid (fun w hE => par_is (B := B) [58, 56, 48] ⟨#[58, 56, 48]⟩ rfl ⟨#[]⟩ [] rfl 0 8 (by kernel_rfl) (by decide) w hE)
  have P7 := Lib.hid (fun w hE => par_is (B := B) [91, 58, 58, 49, 93, 120] ⟨#[91, 58, 58, 49, 93, 120]⟩ rfl ⟨#[]⟩ [] rfl 0 3 (by kernel_rfl) (by decide) w hE)
  have HP8 : Hid (Rl.optT (printS (bs ⟨#[58, 58, 49]⟩) 443) = .tuple #[.string ⟨#[91, 58, 58, 49, 93, 58, 52, 52, 51]⟩, .bool true]) := Lib.hid (by
    have e : printS [58, 58, 49] 443 = some [91, 58, 58, 49, 93, 58, 52, 52, 51] := by rw [← line443]; exact print_yes (by decide) (by rw [line443]; kernel_rfl)
    rw [show bs ⟨#[58, 58, 49]⟩ = [58, 58, 49] from rfl, e]
    rfl)
  have P8 := Lib.hid (fun w hE => print_any (B := B) ⟨#[58, 58, 49]⟩ 443 w hE (by decide) (by decide))
  rw [HP8.out] at P8
  have O1 := Lib.hid (fun A w hE hs => of_is (B := B) R1 [FZ] A 1 1 rfl ⟨#[120]⟩ [120] rfl 1 0 (by kernel_rfl) (by decide) (by decide) (by decide) w hE hs)
  have O2 := Lib.hid (fun A w hE hs => of_is (B := B) R2 [FZ] A 1 1 rfl ⟨#[122]⟩ [122] rfl 0 0 (by kernel_rfl) (by decide) (by decide) (by decide) w hE hs)
  have O3 := Lib.hid (fun A w hE hs => of_is (B := B) R2 [] A 0 0 rfl ⟨#[]⟩ [] rfl 0 8 (by kernel_rfl) (by decide) (by decide) (by decide) w hE hs)
  have O4 := Lib.hid (fun A w hE hs => of_is (B := B) R4 [] A 0 0 rfl ⟨#[]⟩ [] rfl 0 11 (by kernel_rfl) (by decide) (by decide) (by decide) w hE hs)
  have BR1 := Lib.hid (show Tryz.prog.built 23 [(0, .string ⟨#[71, 69, 84]⟩), (1, .string ⟨#[104, 116, 116, 112, 58, 47, 47, 120, 58, 49, 47, 121]⟩)] = some (Rl.rqC R1) by kernel_rfl)
  have BR2 := Lib.hid (show Tryz.prog.built 23 [(0, .string ⟨#[71, 69, 84]⟩), (1, .string ⟨#[47]⟩)] = some (Rl.rqC R2) by kernel_rfl)
  have BR4 := Lib.hid (show Tryz.prog.built 23 [(0, .string ⟨#[67, 79, 78, 78, 69, 67, 84]⟩), (1, .string ⟨#[97, 58, 49]⟩)] = some (Rl.rqC R4) by kernel_rfl)
  have BF := Lib.hid (show Tryz.prog.built 27 [(0, .string ⟨#[104, 111, 115, 116]⟩), (1, .string ⟨#[122]⟩)] = some (Fd.fdC FZ) by kernel_rfl)
  have E0 := Lib.hid hE
  have L0 := Lib.hid (Below.refl w.heap.size w)
  clear hE HP8
  go_enter Tryz.func4, Tryz.ntmps4
  go_wp2_with fail
  refine (P1.out w E0.out).mono ?_
  rintro e v1 ⟨rfl, hb⟩
  have L1 := Lib.hid (L0.out.trans (hb.mono L0.out.size))
  have E1 := Lib.hid (E0.out.on hb)
  clear hb P1 L0 E0
  go_wp2_with fail
  refine (P2.out v1 E1.out).mono ?_
  rintro e v2 ⟨rfl, hb⟩
  have L2 := Lib.hid (L1.out.trans (hb.mono L1.out.size))
  have E2 := Lib.hid (E1.out.on hb)
  clear hb P2 L1 E1
  go_wp2_with fail
  refine (P3.out v2 E2.out).mono ?_
  rintro e v3 ⟨rfl, hb⟩
  have L3 := Lib.hid (L2.out.trans (hb.mono L2.out.size))
  have E3 := Lib.hid (E2.out.on hb)
  clear hb P3 L2 E2
  go_wp2_with fail
  refine (P4.out v3 E3.out).mono ?_
  rintro e v4 ⟨rfl, hb⟩
  have L4 := Lib.hid (L3.out.trans (hb.mono L3.out.size))
  have E4 := Lib.hid (E3.out.on hb)
  clear hb P4 L3 E3
  go_wp2_with fail
  refine (P5.out v4 E4.out).mono ?_
  rintro e v5 ⟨rfl, hb⟩
  have L5 := Lib.hid (L4.out.trans (hb.mono L4.out.size))
  have E5 := Lib.hid (E4.out.on hb)
  clear hb P5 L4 E4
  go_wp2_with fail
  refine (P6.out v5 E5.out).mono ?_
  rintro e v6 ⟨rfl, hb⟩
  have L6 := Lib.hid (L5.out.trans (hb.mono L5.out.size))
  have E6 := Lib.hid (E5.out.on hb)
  clear hb P6 L5 E5
  go_wp2_with fail
  refine (P7.out v6 E6.out).mono ?_
  rintro e v7 ⟨rfl, hb⟩
  have L7 := Lib.hid (L6.out.trans (hb.mono L6.out.size))
  have E7 := Lib.hid (E6.out.on hb)
  clear hb P7 L6 E6
  go_wp2_with fail
  refine (P8.out v7 E7.out).mono ?_
  rintro e v8 ⟨rfl, hb⟩
  have L8 := Lib.hid (L7.out.trans (hb.mono L7.out.size))
  have E8 := Lib.hid (E7.out.on hb)
  clear hb P8 L7 E7
  go_wp2_with (first | (refine Rl.go_bdR _ R1 BR1.out (by rfl) rfl (by simp only [List.map_toArray, List.map_cons, List.map_nil]; rfl) ?_) | (refine Fd.go_bdF _ FZ BF.out (by rfl) rfl (by simp only [List.map_toArray, List.map_cons, List.map_nil]; rfl) ?_))
  rw [show Array.foldl (fun (cs : Array Value) (x : Value × Nat) => cs.setIfInBounds x.snd x.fst) #[.string ⟨#[]⟩, .string ⟨#[]⟩] (Fd.fdC FZ).zipIdx 0 (Fd.fdC FZ).size = #[.string ⟨#[104, 111, 115, 116]⟩, .string ⟨#[122]⟩] from by kernel_rfl]
  have hbl : Below v8.heap.size v8 (v8.alloc (.cells #[.string ⟨#[104, 111, 115, 116]⟩, .string ⟨#[122]⟩] 27)) := (Below.refl _ _).alloc (Nat.le_refl _) _
  have hsf : Fd.SrcF (v8.alloc (.cells #[.string ⟨#[104, 111, 115, 116]⟩, .string ⟨#[122]⟩] 27)) (some ⟨v8.heap.size, 0, none⟩) [FZ] := Fd.SrcF.one FZ (Blk.new v8 _ _)
  have La := Lib.hid (L8.out.trans (hbl.mono L8.out.size))
  have Ea := Lib.hid (E8.out.on hbl)
  clear hbl L8 E8
  generalize v8.alloc (.cells #[.string ⟨#[104, 111, 115, 116]⟩, .string ⟨#[122]⟩] 27) = u9 at *
  refine (O1.out _ u9 Ea.out hsf).mono ?_
  rintro e v9 ⟨rfl, hb⟩
  have L9 := Lib.hid (La.out.trans (hb.mono La.out.size))
  have E9 := Lib.hid (Ea.out.on hb)
  clear hb O1 La Ea hsf
  go_wp2_with (first | (refine Rl.go_bdR _ R2 BR2.out (by rfl) rfl (by simp only [List.map_toArray, List.map_cons, List.map_nil]; rfl) ?_) | (refine Fd.go_bdF _ FZ BF.out (by rfl) rfl (by simp only [List.map_toArray, List.map_cons, List.map_nil]; rfl) ?_))
  rw [show Array.foldl (fun (cs : Array Value) (x : Value × Nat) => cs.setIfInBounds x.snd x.fst) #[.string ⟨#[]⟩, .string ⟨#[]⟩] (Fd.fdC FZ).zipIdx 0 (Fd.fdC FZ).size = #[.string ⟨#[104, 111, 115, 116]⟩, .string ⟨#[122]⟩] from by kernel_rfl]
  have hbl : Below v9.heap.size v9 (v9.alloc (.cells #[.string ⟨#[104, 111, 115, 116]⟩, .string ⟨#[122]⟩] 27)) := (Below.refl _ _).alloc (Nat.le_refl _) _
  have hsf : Fd.SrcF (v9.alloc (.cells #[.string ⟨#[104, 111, 115, 116]⟩, .string ⟨#[122]⟩] 27)) (some ⟨v9.heap.size, 0, none⟩) [FZ] := Fd.SrcF.one FZ (Blk.new v9 _ _)
  have La := Lib.hid (L9.out.trans (hbl.mono L9.out.size))
  have Ea := Lib.hid (E9.out.on hbl)
  clear hbl L9 E9
  generalize v9.alloc (.cells #[.string ⟨#[104, 111, 115, 116]⟩, .string ⟨#[122]⟩] 27) = u10 at *
  refine (O2.out _ u10 Ea.out hsf).mono ?_
  rintro e v10 ⟨rfl, hb⟩
  have L10 := Lib.hid (La.out.trans (hb.mono La.out.size))
  have E10 := Lib.hid (Ea.out.on hb)
  clear hb O2 La Ea hsf
  go_wp2_with (refine Rl.go_bdR _ R2 BR2.out (by rfl) rfl (by simp only [List.map_toArray, List.map_cons, List.map_nil]; rfl) ?_)
  refine (O3.out none v10 E10.out (Fd.SrcF.nil _ _)).mono ?_
  rintro e v11 ⟨rfl, hb⟩
  have L11 := Lib.hid (L10.out.trans (hb.mono L10.out.size))
  have E11 := Lib.hid (E10.out.on hb)
  clear hb O3 L10 E10
  go_wp2_with (refine Rl.go_bdR _ R4 BR4.out (by rfl) rfl (by simp only [List.map_toArray, List.map_cons, List.map_nil]; rfl) ?_)
  refine (O4.out none v11 E11.out (Fd.SrcF.nil _ _)).mono ?_
  rintro e v12 ⟨rfl, hb⟩
  have L12 := Lib.hid (L11.out.trans (hb.mono L11.out.size))
  have E12 := Lib.hid (E11.out.on hb)
  clear hb O4 L11 E11
  go_wp2_with fail
  go_ret
  exact ⟨rfl, L12.out⟩
end Go.Proofs.YtgpgkfbbpiialaaGreatDoor.Au
