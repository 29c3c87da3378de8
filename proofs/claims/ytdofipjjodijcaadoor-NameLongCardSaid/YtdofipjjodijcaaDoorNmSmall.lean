/-
  law14's small case over this seat's translation.
-/
import Derived.Test.YtdofipjjodijcaaDoorNmNorm
namespace Go.Proofs.YtdofipjjodijcaaDoor.Nm
open Go.RowKit Go.Proofs.YtdofipjjodijcaaDoor.Wd Go.Proofs.YtdofipjjodijcaaDoor.Asc Go.Proofs.YtdofipjjodijcaaDoor.Ad

theorem norm_is {B : Nat} (l : List UInt8) (S : ByteArray) (hS : S = str l) (H : ByteArray) (h : List UInt8) (hH : str h = H) (e : Int) (hq : normalS l = (h, e)) (hl : l.length < 4294967281) (w : World) (hE : Ad.Env B w) :
    Calls Tryd.prog 8 #[.string S] w fun x w' => x = .returned (.tuple #[.string H, .int .i64 e]) ∧ Below w.heap.size w w' := by
  subst hS hH
  have h := norm_any (B := B) (str l) w hE (by rw [str_size]; exact hl)
  rw [show bs (str l) = l from rfl, hq] at h
  exact h
theorem norm_at {B : Nat} (S : ByteArray) (hs : S.size < 4294967281) (n : List UInt8) (e : Int) (N : ByteArray) (hq : normalS (bs S) = (n, e)) (hN : str n = N) (w : World) (hE : Ad.Env B w) :
    Calls Tryd.prog 8 #[.string S] w fun x w' => x = .returned (.tuple #[.string N, .int .i64 e]) ∧ Below w.heap.size w w' := by
  subst hN
  have h := norm_any (B := B) S w hE hs
  rw [hq] at h
  exact h
theorem labels_is {B : Nat} (l : List UInt8) (S : ByteArray) (hS : S = str l) (R : List (List UInt8)) (hq : labelsS l = R) (hl : l.length < 4294967281) (w : World) (hE : Ad.Env B w) :
    Calls Tryd.prog 11 #[.string S] w fun x w' => ∃ v, x = .returned v ∧ RowL w' v R ∧ Below w.heap.size w w' := by
  subst hS
  have h := labels_any (B := B) (str l) w hE (by rw [str_size]; exact hl)
  rw [show bs (str l) = l from rfl, hq] at h
  exact h
/-- 300 zeros, made and turned into a string -/
theorem zeros300 : ∃ C : Array Value, (∀ u : World, (Instr.makeSlice 36 (.int .i64 300) (.int .i64 300)).run Tryd.prog u = .ok (.slice (some ⟨u.heap.size, 0, none⟩) 300 300) (u.alloc (.cells C 5))) ∧
    ∀ u : World, (convert 36 9 (.slice (some ⟨u.heap.size, 0, none⟩) 300 300)).run Tryd.prog (u.alloc (.cells C 5)) = .ok (.string (str (List.replicate 300 0))) (u.alloc (.cells C 5)) := by
  refine ⟨(cellsOf (List.replicate 300 0)).toArray, fun u => make_any 300 (by decide) u, fun u => ?_⟩
  have h := Src.marked u (cellsOf (List.replicate 300 0)).toArray 5 (0, 0) (List.replicate 300 0) rfl
  rw [List.length_replicate] at h
  exact conv (c := 300) h
theorem norm300 : normalS (List.replicate 300 0) = ([], 6) := by kernel_rfl
theorem row3 {w : World} {v : Value} {a b c : List UInt8} (h : RowL w v [a, b, c]) : ∃ g k, v = .slice (some ⟨g, 0, none⟩) 3 k ∧ g < w.heap.size ∧ w.cell? ⟨g, 0, none⟩ = some (.string (str a)) ∧ w.cell? ⟨g, 2, none⟩ = some (.string (str c)) := by
  obtain ⟨g, k, hv, _, hg, hr⟩ := h
  exact ⟨g, k, hv, hg, hr 0 a rfl, hr 2 c rfl⟩
theorem row1 {w : World} {v : Value} {a : List UInt8} (h : RowL w v [a]) : ∃ g k, v = .slice (some ⟨g, 0, none⟩) 1 k ∧ g < w.heap.size ∧ w.cell? ⟨g, 0, none⟩ = some (.string (str a)) := by
  obtain ⟨g, k, hv, _, hg, hr⟩ := h
  exact ⟨g, k, hv, hg, hr 0 a rfl⟩

set_option maxRecDepth 100000 in
set_option maxHeartbeats 8000000 in
theorem small_any {B : Nat} (w : World) (hE : Ad.Env B w) : Calls Tryd.prog 7 #[] w fun e w' => e = .returned (.bool true) ∧ Below w.heap.size w w' := by
  have P1 := Lib.hid (fun w hE => norm_is (B := B) [87, 87, 87, 46, 69, 120, 97, 45, 109, 112, 108, 101, 95, 46] ⟨#[87, 87, 87, 46, 69, 120, 97, 45, 109, 112, 108, 101, 95, 46]⟩ rfl ⟨#[119, 119, 119, 46, 101, 120, 97, 45, 109, 112, 108, 101, 95]⟩ [119, 119, 119, 46, 101, 120, 97, 45, 109, 112, 108, 101, 95] rfl 0 (by kernel_rfl) (by decide) w hE)
  have P2 := Lib.hid (fun w hE => norm_is (B := B) [48, 58, 58, 49] ⟨#[48, 58, 58, 49]⟩ rfl ⟨#[58, 58, 49]⟩ [58, 58, 49] rfl 0 (by kernel_rfl) (by decide) w hE)
  have P3 := Lib.hid (fun w hE => norm_is (B := B) [97, 46, 46, 98] ⟨#[97, 46, 46, 98]⟩ rfl ⟨#[]⟩ [] rfl 9 (by kernel_rfl) (by decide) w hE)
  have P4 := Lib.hid (fun w hE => norm_is (B := B) [46] ⟨#[46]⟩ rfl ⟨#[]⟩ [] rfl 8 (by kernel_rfl) (by decide) w hE)
  have P5 := Lib.hid (fun w hE => norm_is (B := B) [97, 46, 49] ⟨#[97, 46, 49]⟩ rfl ⟨#[]⟩ [] rfl 9 (by kernel_rfl) (by decide) w hE)
  have P6 := Lib.hid (fun w hE => norm_is (B := B) [45, 97] ⟨#[45, 97]⟩ rfl ⟨#[]⟩ [] rfl 9 (by kernel_rfl) (by decide) w hE)
  obtain ⟨C, hmk, hkc⟩ := zeros300
  obtain ⟨Z, hZ⟩ : ∃ Z, str (List.replicate 300 0) = Z := ⟨_, rfl⟩
  rw [hZ] at hkc
  have P7 := Lib.hid (fun w hE => norm_is (B := B) (List.replicate 300 0) Z hZ.symm ⟨#[]⟩ [] rfl 6 norm300 (by decide) w hE)
  have P8 := Lib.hid (fun w hE => labels_is (B := B) [97, 46, 98, 46, 99] ⟨#[97, 46, 98, 46, 99]⟩ rfl [[99], [98], [97]] (by kernel_rfl) (by decide) w hE)
  have P9 := Lib.hid (fun w hE => labels_is (B := B) [49, 46, 50, 46, 51, 46, 52] ⟨#[49, 46, 50, 46, 51, 46, 52]⟩ rfl [[49, 46, 50, 46, 51, 46, 52]] (by kernel_rfl) (by decide) w hE)
  have E0 := Lib.hid hE
  have L0 := Lib.hid (Below.refl w.heap.size w)
  have HMK := Lib.hid hmk
  have HKC := Lib.hid hkc
  clear hE hZ hmk hkc
  go_enter Tryd.func7, Tryd.ntmps7
  go_wp2_with fail
  refine (P1.out w E0.out).mono ?_
  rintro e v1 ⟨rfl, hb⟩
  have L1 := Lib.hid (L0.out.trans (hb.mono L0.out.size))
  have E1 := Lib.hid (E0.out.on hb)
  clear hb P1 L0 E0
  go_wp2_with fail
  refine (P2.out v1 E1.out).mono ?_
  rintro e v2 ⟨rfl, hb⟩
  have L2 := Lib.hid (L1.out.trans (hb.mono L1.out.size))
  have E2 := Lib.hid (E1.out.on hb)
  clear hb P2 L1 E1
  go_wp2_with fail
  refine (P3.out v2 E2.out).mono ?_
  rintro e v3 ⟨rfl, hb⟩
  have L3 := Lib.hid (L2.out.trans (hb.mono L2.out.size))
  have E3 := Lib.hid (E2.out.on hb)
  clear hb P3 L2 E2
  go_wp2_with fail
  refine (P4.out v3 E3.out).mono ?_
  rintro e v4 ⟨rfl, hb⟩
  have L4 := Lib.hid (L3.out.trans (hb.mono L3.out.size))
  have E4 := Lib.hid (E3.out.on hb)
  clear hb P4 L3 E3
  go_wp2_with fail
  refine (P5.out v4 E4.out).mono ?_
  rintro e v5 ⟨rfl, hb⟩
  have L5 := Lib.hid (L4.out.trans (hb.mono L4.out.size))
  have E5 := Lib.hid (E4.out.on hb)
  clear hb P5 L4 E4
  go_wp2_with fail
  refine (P6.out v5 E5.out).mono ?_
  rintro e v6 ⟨rfl, hb⟩
  have L6 := Lib.hid (L5.out.trans (hb.mono L5.out.size))
  have E6 := Lib.hid (E5.out.on hb)
  clear hb P6 L5 E5
  have hmk := HMK.out
  have hkc := HKC.out
  clear HMK HKC
  go_wp2_with fail
  clear hmk hkc
  have hbl : Below v6.heap.size v6 (v6.alloc (.cells C 5)) := (Below.refl _ _).alloc (Nat.le_refl _) _
  have La := Lib.hid (L6.out.trans (hbl.mono L6.out.size))
  have Ea := Lib.hid (E6.out.on hbl)
  clear hbl L6 E6
  generalize v6.alloc (.cells C 5) = u7 at *
  refine (P7.out u7 Ea.out).mono ?_
  rintro e v7 ⟨rfl, hb⟩
  have L7 := Lib.hid (La.out.trans (hb.mono La.out.size))
  have E7 := Lib.hid (Ea.out.on hb)
  clear hb P7 La Ea
  go_wp2_with fail
  refine (P8.out v7 E7.out).mono ?_
  rintro e v8 ⟨r8, rfl, hr, hb⟩
  obtain ⟨g8, k8, rfl, hg8, hc0, hc2⟩ := row3 hr
  have L8 := Lib.hid (L7.out.trans (hb.mono L7.out.size))
  have E8 := Lib.hid (E7.out.on hb)
  clear hb hr P8 L7 E7
  have C0 := Lib.hid hc0
  have C2 := Lib.hid hc2
  clear hc0 hc2
  go_wp2_with fail
  refine (P9.out v8 E8.out).mono ?_
  rintro e v9 ⟨r9, rfl, hr, hb⟩
  obtain ⟨g9, k9, rfl, hg9, hd0⟩ := row1 hr
  have hc0 := (hb.cell (p := ⟨g8, 0, none⟩) hg8).trans C0.out
  have hc2 := (hb.cell (p := ⟨g8, 2, none⟩) hg8).trans C2.out
  have L9 := Lib.hid (L8.out.trans (hb.mono L8.out.size))
  have E9 := Lib.hid (E8.out.on hb)
  clear hb hr P9 L8 E8
  clear C0 C2
  go_wp2_with fail
  go_ret
  exact ⟨rfl, L9.out⟩
end Go.Proofs.YtdofipjjodijcaaDoor.Nm
