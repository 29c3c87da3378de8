/-
  Contract of package field's Print over this seat's translation: it answers what printS says.
-/
import Derived.Test.YtgbhnjkigjecmaaGreatDoorQ42
namespace Go.Proofs.YtgbhnjkigjecmaaGreatDoor.Fd
open Go.RowKit Go.Proofs.YtgbhnjkigjecmaaGreatDoor.Wd Go.Proofs.YtgbhnjkigjecmaaGreatDoor.Asc Go.Proofs.YtgbhnjkigjecmaaGreatDoor.Tx Go.Proofs.YtgbhnjkigjecmaaGreatDoor.St

/-- what Print of both answers -/
def optT : Option (List UInt8) → Value
  | none => .tuple #[.string ⟨#[]⟩, .bool false]
  | some l => .tuple #[.string (str l), .bool true]
def optS : Option (List UInt8) → ByteArray
  | none => ⟨#[]⟩
  | some l => str l
theorem opt_str (o : Option (List UInt8)) : optT o = .tuple #[.string (optS o), .bool o.isSome] := by cases o <;> rfl

set_option linter.unusedSimpArgs false in
set_option maxRecDepth 100000 in
set_option maxHeartbeats 4000000 in
theorem print_any {N : Nat} (f : Fld) (w : World) (hE : Env N w) (h1 : f.name.length ≤ 140737488355326) (h2 : f.text.length ≤ 140737488355326) :
    Calls Tryz.prog 16 #[.agg (fdC f)] w fun e w' => e = .returned (optT (printS f)) ∧ Below w.heap.size w w' := by
  have HE := Lib.hid hE
  obtain ⟨A, hA⟩ : ∃ A, str f.name = A := ⟨_, rfl⟩
  obtain ⟨B, hB⟩ : ∃ B, str f.text = B := ⟨_, rfl⟩
  have hC : fdC f = #[.string A, .string B] := by rw [← hA, ← hB]; rfl
  have sA : A.size ≤ 140737488355326 := by rw [← hA, str_size]; exact h1
  have sB : B.size ≤ 140737488355326 := by rw [← hB, str_size]; exact h2
  have HT : Hid (A ++ ⟨#[58]⟩ ++ ⟨#[32]⟩ ++ B = str (lineF f)) := Lib.hid (by
    rw [← hA, ← hB]
    apply bs_inj
    simp only [bs_add, bs_str]
    simp [lineF, bs])
  have HLl : Hid ((lineF f).length ≤ 281474976710656) := Lib.hid (by simp [lineF]; omega)
  have HC := Lib.hid hC
  rw [hC]
  have z1 : (A ++ (⟨#[58]⟩ : ByteArray)).size ≤ 140737488355327 := by rw [ByteArray.size_append]; show A.size + 1 ≤ _; omega
  have z2 : (A ++ (⟨#[58]⟩ : ByteArray) ++ (⟨#[32]⟩ : ByteArray)).size ≤ 140737488355328 := by rw [ByteArray.size_append]; show _ + 1 ≤ _; omega
  clear hA hB h1 h2 hC hE
  go_enter Tryz.func16, Tryz.ntmps16
  go_upto_region 1 with fail
  have b0 := Blk.new w 45 #[.string A, .string B]
  have hbel : Below w.heap.size w (w.alloc (.cells #[.string A, .string B] 45)) := (Below.refl _ _).alloc (Nat.le_refl _) _
  generalize w.alloc (.cells #[.string A, .string B] 45) = w2 at *
  generalize hG : w.heap.size = G at *
  have HG := Lib.hid hG
  have HK2 := Lib.hid b0
  have HBL2 := Lib.hid hbel
  have c0 := b0.cell 0
  have c1 := b0.cell 1
  clear b0 hbel hG
  go_wp2_with fail
  rw [HT.out]
  refine (parse_any (lineF f) w2 (HE.out.on (by rw [HG.out]; exact HBL2.out)) HLl.out).mono ?_
  rintro e w3 ⟨rfl, hb3⟩
  obtain ⟨p, hp⟩ : ∃ p, parseS (lineF f) = p := ⟨_, rfl⟩
  rw [hp]
  have HPp := Lib.hid hp
  obtain ⟨q, E⟩ := p
  have hb3G : G ≤ w2.heap.size := Nat.le_of_lt HK2.out.lt
  have HK3 := Lib.hid (show Blk w3 G 45 (fdC f) by rw [HC.out]; exact HK2.out.below hb3 HK2.out.lt)
  have HBL3 := Lib.hid (HBL2.out.trans (hb3.mono hb3G))
  have hlt3 : G < w3.heap.size := Nat.lt_of_lt_of_le HK2.out.lt hb3.size
  clear hp hb3 HK2 HBL2 hb3G HT c0 c1
  go_upto_region 3 with (refine go_st 45 (Blk.new _ _ _) infF rfl rfl (fdC_one _) rfl rfl rfl rfl ?_)
  obtain ⟨b4, hb4⟩ := st_new w3 q
  have b3 : Blk ((w3.alloc (.cells #[.string ⟨#[]⟩, .string ⟨#[]⟩] 45)).setRow w3.heap.size (fdC q)) G 45 (fdC f) := HK3.out.below hb4 HK3.out.lt
  have HF4 := Lib.hid (HBL3.out.trans (hb4.mono (Nat.le_of_lt hlt3)))
  clear hb4
  generalize (w3.alloc (.cells #[.string ⟨#[]⟩, .string ⟨#[]⟩] 45)).setRow w3.heap.size (fdC q) = w4 at *
  generalize w3.heap.size = g4 at *
  have h41 : (fdC q).size = 2 := rfl
  have h31 : (fdC f).size = 2 := rfl
  by_cases hE0 : E = 0
  · subst hE0
    cases hqr : decide (q = f) with
    | false =>
      have HF : Hid (printS f = none) := Lib.hid (print_no HPp.out (.inr (of_decide_eq_false hqr)))
      have HQ := Lib.hid hqr
      clear hqr
      go_wp2_with (first | (refine go_ldg (x := .tmp 5) 45 b4 undF rfl infF h41 (by rfl) rfl rfl ?_) | (refine go_ldg (x := .tmp 1) 45 b3 undF rfl infF h31 (by rfl) rfl rfl ?_; refine Hid.out ?_))
      refine Lib.hid ?_
      refine go_neqF (x := .tmp 22) (y := .tmp 23) (t := 45) q f _ HQ.out rfl (by rfl) rfl rfl ?_
      go_wp2_with fail
      go_ret2
      rw [HF.out]
      exact ⟨rfl, by rw [HG.out]; exact HF4.out⟩
    | true =>
      have HF : Hid (printS f = some (lineF f)) := Lib.hid (print_yes (by rw [HPp.out, of_decide_eq_true hqr]))
      have HQ := Lib.hid hqr
      clear hqr
      go_wp2_with (first | (refine go_ldg (x := .tmp 5) 45 b4 undF rfl infF h41 (by rfl) rfl rfl ?_) | (refine go_ldg (x := .tmp 1) 45 b3 undF rfl infF h31 (by rfl) rfl rfl ?_; refine Hid.out ?_))
      refine Lib.hid ?_
      refine go_neqF (x := .tmp 22) (y := .tmp 23) (t := 45) q f _ HQ.out rfl (by rfl) rfl rfl ?_
      go_wp2_with fail
      go_ret2
      rw [HF.out]
      exact ⟨rfl, by rw [HG.out]; exact HF4.out⟩
  · have HF : Hid (printS f = none) := Lib.hid (print_no HPp.out (.inl hE0))
    have hb : (E != 0) = true := by simp [hE0]
    have hd : decide (E = 0) = false := by simp [hE0]
    clear hE0
    go_wp2_with fail
    go_ret2
    rw [HF.out]
    exact ⟨rfl, by rw [HG.out]; exact HF4.out⟩
end Go.Proofs.YtgbhnjkigjecmaaGreatDoor.Fd
