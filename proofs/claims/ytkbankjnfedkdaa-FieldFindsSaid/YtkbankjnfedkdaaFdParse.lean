/-
  Contract of package field's Parse over this seat's translation: it answers what parseS says.
-/
import Derived.Test.YtkbankjnfedkdaaFdMem
import Derived.Test.YtkbankjnfedkdaaFdFns
import Derived.Test.YtkbankjnfedkdaaTxMax
import Derived.Test.YtkbankjnfedkdaaRfTrim
import Derived.IntWalk
import Derived.Deep.Cut
namespace Go.Proofs.Ytkbankjnfedkdaa.Fd
open Go.RowKit Go.Proofs.Ytkbankjnfedkdaa.Wd Go.Proofs.Ytkbankjnfedkdaa.Asc Go.Proofs.Ytkbankjnfedkdaa.Tx Go.Proofs.Ytkbankjnfedkdaa.St

theorem ret_fd {fd : Fld} {p : Fld × Int} {k : Int} {w w' : World} {X : Array Value} (hp : p = (fd, k)) (hX : X = fdC fd) (hb : Below w.heap.size w w') : ParP p w (.returned (.tuple #[.agg X, .int .i64 k])) w' := by
  subst hp hX
  exact ⟨rfl, hb⟩

set_option maxRecDepth 100000 in
set_option maxHeartbeats 4000000 in
theorem parse_any {N : Nat} (l : List UInt8) (w : World) (hE : Env N w) (hl : l.length < 4294967281) :
    Calls Try.prog 9 #[.string (str l)] w (ParP (parseS l) w) := by
  obtain ⟨q, hq⟩ : ∃ q, parseS l = q := ⟨_, rfl⟩
  rw [hq]
  have HQ := Lib.hid hq
  have HE := Lib.hid hE
  clear hq hE
  obtain ⟨S, hS⟩ : ∃ S, str l = S := ⟨_, rfl⟩
  have zS : S.size < 4294967281 := by rw [← hS, str_size]; exact hl
  rcases first_of (c := 58) l with h0 | ⟨a, b, rfl, h0⟩
  · have HF : Hid (q = (Fld.zero, 9)) := Lib.hid (by rw [← HQ.out]; exact parse_free h0)
    have K1 := Lib.hid (fun w hE => cut_not (B := N) l 58 S w hE hS zS h0)
    rw [hS] at K1 ⊢
    clear hS zS hl h0 HQ
    go_enter Try.func9, Try.ntmps9
    go_upto_region 1 with fail
    have H0 := Lib.hid (PaAt.new w)
    generalize (w.alloc (.cells #[.string ⟨#[]⟩, .string ⟨#[]⟩] 24)) = w0 at *
    go_wp2_with fail
    refine (K1.out w0 (HE.out.on H0.out.bel)).mono ?_
    rintro e w1 ⟨rfl, hbl⟩
    have H1 := Lib.hid (H0.out.more hbl)
    clear K1 hbl H0
    have hk0 := H1.out.ob.cell 0
    have hk1 := H1.out.ob.cell 1
    have hf0 := H1.out.ob.frozen 0
    have hf1 := H1.out.ob.frozen 1
    go_wp2_with fail
    obtain ⟨hbk, hbe⟩ := H1.out.set (.string ⟨#[]⟩) (.string ⟨#[]⟩)
    refine ret_two Try.results9 hbk undF rfl infF rfl rfl rfl ?_ rfl
    exact ret_fd HF.out rfl hbe
  · obtain ⟨A, hA⟩ : ∃ A, str a = A := ⟨_, rfl⟩
    obtain ⟨B, hB⟩ : ∃ B, str b = B := ⟨_, rfl⟩
    have hP : partsS a b = q := by rw [← HQ.out]; exact (parse_at h0).symm
    have K1 := Lib.hid (fun w hE => cut_yes (B := N) a b 58 S w hE hS zS h0)
    have K2 := Lib.hid (token_any A)
    have K3 := Lib.hid (contains_any B)
    have K4 := Lib.hid (lower_any A)
    have K5 := Lib.hid (fun w => trim_any B w (by rw [← hB, str_size]; simp at hl; omega))
    have HN := Lib.hid (show lowS A = str (a.map lowB) by rw [← hA]; rfl)
    have HT := Lib.hid (show trimS B = str (trimL b) by rw [← hB]; rfl)
    rw [show bs A = a by rw [← hA, bs_str]] at K2
    rw [show bs B = b by rw [← hB, bs_str]] at K3
    rw [hA, hB] at K1
    have H9 := Lib.hid (fun h => (hP.symm.trans (parts_no (a := a) (b := b) h)))
    have H3 := Lib.hid (fun h g => (hP.symm.trans (parts_bad (a := a) (b := b) h g)))
    have HY := Lib.hid (fun h g => (hP.symm.trans (parts_ok (a := a) (b := b) h g)))
    rw [hS]
    generalize allS tokI a = tk at *
    generalize b.any ctlB = ct at *
    generalize lowS A = L at *
    generalize trimS B = T at *
    clear hS zS hl h0 HQ hA hB hP
    go_enter Try.func9, Try.ntmps9
    go_upto_region 1 with fail
    have H0 := Lib.hid (PaAt.new w)
    generalize (w.alloc (.cells #[.string ⟨#[]⟩, .string ⟨#[]⟩] 24)) = w0 at *
    go_wp2_with fail
    refine (K1.out w0 (HE.out.on H0.out.bel)).mono ?_
    rintro e w1 ⟨rfl, hbl⟩
    have H1 := Lib.hid (H0.out.more hbl)
    clear K1 hbl H0
    go_wp2_with fail
    refine (K2.out w1).mono ?_
    rintro e w2 ⟨rfl, hbl⟩
    have H2 := Lib.hid (H1.out.more hbl)
    clear K2 hbl H1
    cases tk with
    | false =>
      have HF := Lib.hid (H9.out (by trivial))
      clear H9 H3 HY
      have hk0 := H2.out.ob.cell 0
      have hk1 := H2.out.ob.cell 1
      have hf0 := H2.out.ob.frozen 0
      have hf1 := H2.out.ob.frozen 1
      go_wp2_with fail
      obtain ⟨hbk, hbe⟩ := H2.out.set (.string ⟨#[]⟩) (.string ⟨#[]⟩)
      refine ret_two Try.results9 hbk undF rfl infF rfl rfl rfl ?_ rfl
      exact ret_fd HF.out rfl hbe
    | true =>
      go_wp2_with fail
      refine (K3.out w2).mono ?_
      rintro e w3 ⟨rfl, hbl⟩
      have H4 := Lib.hid (H2.out.more hbl)
      clear K3 hbl H2
      cases ct with
      | true =>
        have HF := Lib.hid (H3.out (by trivial) (by trivial))
        clear H9 H3 HY
        have hk0 := H4.out.ob.cell 0
        have hk1 := H4.out.ob.cell 1
        have hf0 := H4.out.ob.frozen 0
        have hf1 := H4.out.ob.frozen 1
        go_wp2_with fail
        obtain ⟨hbk, hbe⟩ := H4.out.set (.string ⟨#[]⟩) (.string ⟨#[]⟩)
        refine ret_two Try.results9 hbk undF rfl infF rfl rfl rfl ?_ rfl
        exact ret_fd HF.out rfl hbe
      | false =>
        have HF := Lib.hid (HY.out (by trivial) (by trivial))
        clear H9 H3 HY
        go_wp2_with fail
        refine (K4.out w3).mono ?_
        rintro e w4 ⟨rfl, hbl⟩
        have H5 := Lib.hid (H4.out.more hbl)
        clear K4 hbl H4
        go_wp2_with fail
        refine (K5.out w4).mono ?_
        rintro e w5 ⟨rfl, hbl⟩
        have H6 := Lib.hid (H5.out.more hbl)
        clear K5 hbl H5
        have hk0 := H6.out.ob.cell 0
        have hk1 := H6.out.ob.cell 1
        have hf0 := H6.out.ob.frozen 0
        have hf1 := H6.out.ob.frozen 1
        go_wp2_with fail
        obtain ⟨hbk, hbe⟩ := H6.out.set (.string L) (.string T)
        refine ret_two Try.results9 hbk undF rfl infF rfl rfl rfl ?_ rfl
        exact ret_fd HF.out (by rw [HN.out, HT.out]; rfl) hbe
end Go.Proofs.Ytkbankjnfedkdaa.Fd
