/-
  Contracts of package reqline's Authority and Form, and of hagioscoperef11's, over this seat's translation: they answer what authS and formS say.
-/
import Derived.Test.YtgpgkfbbpiialaaGreatDoorMRl
import Derived.Test.YtgpgkfbbpiialaaGreatDoorClone
import Derived.IntWalk
import Derived.Deep.Cut
import Derived.Test.YtgpgkfbbpiialaaGreatDoorTxAny
namespace Go.Proofs.YtgpgkfbbpiialaaGreatDoor.Rl
open Go.RowKit Go.Proofs.YtgpgkfbbpiialaaGreatDoor.Wd Go.Proofs.YtgpgkfbbpiialaaGreatDoor.Asc Go.Proofs.YtgpgkfbbpiialaaGreatDoor.Tx Go.Proofs.YtgpgkfbbpiialaaGreatDoor.St

theorem asci_ends : Asci (bs (⟨#[47, 63, 35]⟩ : ByteArray)) := by
  intro c hc
  have : c ∈ ends := hc
  simp only [ends, List.mem_cons, List.not_mem_nil, or_false] at this
  rcases this with rfl | rfl | rfl <;> decide
theorem same_http (l : List UInt8) (S : ByteArray) (hS : bs S = l) : sameS (S.extract 0 7) ⟨#[104, 116, 116, 112, 58, 47, 47]⟩ = decide ((l.take 7).map lowB = http) := by
  unfold sameS
  rw [bs_extract, hS, List.drop_zero, Nat.sub_zero]
  have e : (bs (⟨#[104, 116, 116, 112, 58, 47, 47]⟩ : ByteArray)).map lowB = http := by decide
  rw [e]
  by_cases h : (l.take 7).map lowB = http
  · rw [h]; simp
  · rw [decide_eq_false h]; simpa using h

set_option maxRecDepth 100000 in
set_option maxHeartbeats 4000000 in
theorem auth_any (l : List UInt8) (S : ByteArray) (hS : str l = S) (hl : S.size ≤ 1000000) (w : World) :
    Calls Tryz.prog 18 #[.string S] w fun e w' => e = .returned (optT (authS l)) ∧ Below w.heap.size w w' := by
  have hz : S.size = l.length := by rw [← hS, str_size]
  have hb : bs S = l := by rw [← hS, bs_str]
  by_cases h7 : l.length < 7
  · have HF := Lib.hid (auth_short h7)
    have hi : (S.size : Int) < 7 := by omega
    clear hz h7 hS hb
    go_enter Tryz.func18, Tryz.ntmps18
    go_wp2_with fail
    go_ret2
    rw [HF.out]
    exact ⟨rfl, Below.refl _ _⟩
  · have hi : ¬ (S.size : Int) < 7 := by omega
    have hi2 : (7 : Int) ≤ (S.size : Int) := by omega
    have hE := same_http l S hb
    have HSm := Lib.hid (fun w => same_any (S.extract 0 7) ⟨#[104, 116, 116, 112, 58, 47, 47]⟩ w)
    rw [hE] at HSm
    clear hE
    by_cases hh : (l.take 7).map lowB = http
    · rw [decide_eq_true hh] at HSm
      have HF := Lib.hid (auth_is (by omega) hh)
      have HA := Lib.hid (fun F w hF => any_any F ⟨#[47, 63, 35]⟩ w hF (by decide) (by decide) asci_ends)
      obtain ⟨F, hFe⟩ : ∃ F, S.extract 7 S.size = F := ⟨_, rfl⟩
      have hFb : bs F = l.drop 7 := by rw [← hFe, bs_extract, hb, List.take_of_length_le (by rw [List.length_drop]; omega)]
      have hFz : F.size ≤ 1000000 := by rw [← bs_length, hFb, List.length_drop]; omega
      have HFe := Lib.hid hFe
      have hw := any_while (bs F) ends
      have HFb := Lib.hid hFb
      clear hh hz h7 hS hb hFe hFb
      go_enter Tryz.func18, Tryz.ntmps18
      go_wp2_with (go_at_call 32; refine (HSm.out _).mono ?_; rintro e w1 ⟨rfl, hb1⟩)
      rw [HFe.out]
      refine (HA.out F w1 (by omega)).mono ?_
      rintro e w2 ⟨rfl, hb2⟩
      rw [show bs (⟨#[47, 63, 35]⟩ : ByteArray) = ends from rfl]
      have HB2 := Lib.hid (hb1.trans (hb2.mono hb1.size))
      clear hb1 hb2
      rcases hw with ⟨h1, h2⟩ | ⟨k, h1, h2, h3⟩
      · rw [h1]
        have HR : Hid (authS l = some (bs F)) := Lib.hid (by rw [HF.out, ← HFb.out]; exact congrArg some h2)
        have hFz2 : F.size ≤ 140737488355328 := by omega
        clear h1 h2 HA HSm
        go_wp2_with (go_at_call 10; refine (clone_any F _ hFz2).mono ?_; rintro e w3 ⟨rfl, hb3⟩)
        go_ret2
        rw [HR.out]
        exact ⟨rfl, HB2.out.trans (hb3.mono HB2.out.size)⟩
      · rw [h1]
        rw [bs_length] at h2
        have HR : Hid (authS l = some (bs (F.extract 0 k))) := Lib.hid (by
          rw [HF.out, ← HFb.out, bs_extract, List.drop_zero, Nat.sub_zero, ← h3]; rfl)
        have hk1 : (k : Int) ≤ (F.size : Int) := by omega
        have hk2 : (0 : Int) ≤ (k : Int) := by omega
        obtain ⟨X, hX⟩ : ∃ X, F.extract 0 k = X := ⟨_, rfl⟩
        have hXz : X.size ≤ 140737488355328 := by
          rw [← hX, ← bs_length, bs_extract, List.length_take]
          omega
        have HX := Lib.hid hX
        rw [hX] at HR
        clear h1 h3 HA HSm hX
        go_upto_region 7 with fail
        rw [HX.out]
        go_wp2_with (go_at_call 10; refine (clone_any X _ hXz).mono ?_; rintro e w3 ⟨rfl, hb3⟩)
        go_ret2
        rw [HR.out]
        exact ⟨rfl, HB2.out.trans (hb3.mono HB2.out.size)⟩
    · rw [decide_eq_false hh] at HSm
      have HF := Lib.hid (auth_not hh)
      clear hh hz h7 hS hb
      go_enter Tryz.func18, Tryz.ntmps18
      go_wp2_with (go_at_call 32; refine (HSm.out _).mono ?_; rintro e w1 ⟨rfl, hb1⟩)
      go_ret2
      rw [HF.out]
      exact ⟨rfl, hb1⟩
end Go.Proofs.YtgpgkfbbpiialaaGreatDoor.Rl
