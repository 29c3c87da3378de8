/-
  Contracts of package exts' readers of one item over this seat's translation: readTyped, readProtocol, readVersion.
-/
import Derived.Test.YtajmdchidmamcaaExPure
import Derived.Test.YtajmdchidmamcaaRow
import Derived.Test.YtajmdchidmamcaaRet
namespace Go.Proofs.Ytajmdchidmamcaa.Ex
open Go.RowKit Go.Proofs.Ytajmdchidmamcaa.Wd Go.Proofs.Ytajmdchidmamcaa.Be Go.Proofs.Ytajmdchidmamcaa.He Go.Proofs.Ytajmdchidmamcaa.Ro

/-- one item was read: its value, where the reader is then -/
def OneP {α : Type} (val : α → Value) (r : Nat) (w : World) (p : α × Option (List UInt8)) (e : Ending) (w' : World) : Prop := e = .returned (val p.1) ∧ Rd w' r p.2 ∧ w.grownBy w' (some r)
def valS (x : List UInt8) : Value := .string (str8 x)
def valI (n : Int) : Value := .int .i64 n
def valT (x : Int × List UInt8) : Value := .agg #[.int .i64 x.1, .string (str8 x.2)]

theorem undT : Try.prog.underlying 59 = some (.struct (Try.prog.fieldsOf 59)) := by kernel_rfl
theorem infT : (Try.prog.info? 59).map (·.size) = some 2 := by kernel_rfl

set_option maxHeartbeats 400000 in
theorem ver_any (r : Nat) (st : Option (List UInt8)) (w : World) (hr : Rd w r st) (hl : leftS st ≤ 65535) :
    Calls Try.prog 41 #[.pointer (some ⟨r, 0, none⟩)] w (OneP valI r w (verO st)) := by
  go_enter Try.func41, Try.ntmps41
  go_wp2_with fail
  refine (num_any r 2 st w hr (left_bd (by omega))).mono ?_
  rintro e w1 ⟨rfl, hrd, hg⟩
  have H := Lib.hid hrd
  clear hrd hr
  go_wp2_with fail
  go_ret
  exact ⟨rfl, H.out, hg⟩

set_option maxHeartbeats 400000 in
theorem pro_any (r : Nat) (st : Option (List UInt8)) (w : World) (hr : Rd w r st) (hl : leftS st ≤ 65535) :
    Calls Try.prog 38 #[.pointer (some ⟨r, 0, none⟩)] w (OneP valS r w (proO st)) := by
  go_enter Try.func38, Try.ntmps38
  go_wp2_with fail
  refine (rvec_any r 1 st w hr (left_bd (by omega))).mono ?_
  rintro e w1 ⟨v, rfl, hsl, hrd, hg⟩
  obtain ⟨A, c, rfl, _, hs⟩ := hsl.src
  have hcv := con8 (c := c) hs
  have H := Lib.hid hrd
  have HG := Lib.hid hg
  have HV := Lib.hid (show proO st = vecS st 1 from rfl)
  clear hrd hr hsl hs hg
  generalize vecS st 1 = p at *
  go_wp2_with fail
  go_ret
  rw [HV.out]
  exact ⟨rfl, H.out, HG.out⟩

set_option maxRecDepth 100000 in
set_option maxHeartbeats 800000 in
theorem typ_any (r : Nat) (st : Option (List UInt8)) (w : World) (hr : Rd w r st) (hl : leftS st ≤ 65535) :
    Calls Try.prog 29 #[.pointer (some ⟨r, 0, none⟩)] w (OneP valT r w (typO st)) := by
  have HT := Lib.hid (show typO st = ((((numS st 1).1 : Int), (vecS (numS st 1).2 2).1), (vecS (numS st 1).2 2).2) from rfl)
  have hl2 : leftS (numS st 1).2 ≤ 65535 := Nat.le_trans (take_less _ _) hl
  have HR := Lib.hid hr
  have hlt := hr.lt
  clear hr
  go_enter Try.func29, Try.ntmps29
  go_wp2_with fail
  refine (num_any r 1 st _ (HR.out.below ((Below.refl w.heap.size w).alloc (Nat.le_refl _) _) (Nat.le_refl _)) (left_bd (by omega))).mono ?_
  rintro e w1 ⟨rfl, hrd, hg⟩
  have hb0 : Blk w1 w.heap.size 59 #[.int .i64 0, .string .empty] := (Blk.new w 59 #[.int .i64 0, .string .empty]).grown hg (by simp; omega)
  have hg1 : w.grownBy w1 (some r) := only_trans (only_alloc (only_refl w (some r)) _) hg
  have H := Lib.hid hrd
  have HG := Lib.hid hg1
  have HB := Lib.hid hb0
  clear hrd hg hg1 hb0 HR
  generalize numS st 1 = p at *
  go_wp2_with fail
  refine (rvec_any r 2 p.2 w1 H.out (left_bd (by omega))).mono ?_
  rintro e w2 ⟨v, rfl, hsl, hrd, hg⟩
  obtain ⟨A, c, rfl, _, hs⟩ := hsl.src
  have hcv := con8 (c := c) hs
  have hne : w.heap.size ≠ r := by omega
  have hb2 : Blk w2 w.heap.size 59 #[.int .i64 0, .string .empty] := HB.out.grown hg (by simp [hne])
  have HB2 := Lib.hid hb2
  have hc0 := hb2.cell 0
  have hc1 := hb2.cell 1
  have hf0 := hb2.frozen 0
  have hf1 := hb2.frozen 1
  have H2 := Lib.hid hrd
  have HG2 := Lib.hid (only_trans HG.out hg)
  clear hrd hsl hs hg HB HG H hb2
  generalize vecS p.2 2 = q at *
  go_wp2_with fail
  have hb3 := (HB2.out.set_ 0 (.int .i64 (p.1 : Int))).set_ 1 (.string ⟨q.1.toArray⟩)
  rw [set2_0, set2_1] at hb3
  have hgg := only_setCell (p := ⟨w.heap.size, 1, none⟩) (only_setCell (p := ⟨w.heap.size, 0, none⟩) (only_refl w2 (some w.heap.size)) (.inl rfl) (.int .i64 (p.1 : Int))) (.inl rfl) (.string ⟨q.1.toArray⟩)
  have hrd3 := Rd.off (T := TB) H2.out hgg (OffT.of_blk HB2.out (by unfold TB; decide)) (.inl rfl) (.inr rfl)
  have hg3 := only_new HG2.out hgg (Nat.le_refl _)
  refine ret_one Try.results29 hb3 undT rfl infT rfl rfl ?_ rfl
  rw [HT.out]
  exact ⟨rfl, hrd3, hg3⟩
end Go.Proofs.Ytajmdchidmamcaa.Ex
