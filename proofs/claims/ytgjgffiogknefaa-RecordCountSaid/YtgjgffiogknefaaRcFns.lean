/-
  Contracts of package record's deframer over this seat's translation: New, pay, head, Take, Open, Count.
-/
import Derived.Test.YtgjgffiogknefaaRcPure
import Derived.Test.YtgjgffiogknefaaOwn
import Derived.Test.YtgjgffiogknefaaRcBits
import Derived.Deep.QuietTactic
import Derived.BigQuiet
namespace Go.Proofs.Ytgjgffiogknefaa.Rc
open Go.RowKit Go.Proofs.Ytgjgffiogknefaa.Wd

/-- a deframer at block g -/
def Rd (w : World) (g : Nat) (d : D) : Prop := Blk w g 43 #[.int .i64 (d.a : Int), .int .i64 (d.l : Int), .int .i64 (d.n : Int), .int .i64 (d.e : Int)]
theorem set4_0 (a b c d x : Value) : (#[a, b, c, d] : Array Value).setIfInBounds 0 x = #[x, b, c, d] := by simp
theorem set4_1 (a b c d x : Value) : (#[a, b, c, d] : Array Value).setIfInBounds 1 x = #[a, x, c, d] := by simp
theorem set4_2 (a b c d x : Value) : (#[a, b, c, d] : Array Value).setIfInBounds 2 x = #[a, b, x, d] := by simp
theorem set4_3 (a b c d x : Value) : (#[a, b, c, d] : Array Value).setIfInBounds 3 x = #[a, b, c, x] := by simp
section
variable {w : World} {g t : Nat} {a b c d x : Value}
theorem blk_0 (h : Blk w g t #[a, b, c, d]) : Blk (w.setCell ⟨g, 0, none⟩ x) g t #[x, b, c, d] := by have := h.set_ 0 x; rwa [set4_0] at this
theorem blk_1 (h : Blk w g t #[a, b, c, d]) : Blk (w.setCell ⟨g, 1, none⟩ x) g t #[a, x, c, d] := by have := h.set_ 1 x; rwa [set4_1] at this
theorem blk_2 (h : Blk w g t #[a, b, c, d]) : Blk (w.setCell ⟨g, 2, none⟩ x) g t #[a, b, x, d] := by have := h.set_ 2 x; rwa [set4_2] at this
theorem blk_3 (h : Blk w g t #[a, b, c, d]) : Blk (w.setCell ⟨g, 3, none⟩ x) g t #[a, b, c, x] := by have := h.set_ 3 x; rwa [set4_3] at this
theorem but_set {w0 : World} (h : But [g] w0 w) (o : Nat) (x : Value) : But [g] w0 (w.setCell ⟨g, o, none⟩ x) := h.set_ (p := ⟨g, o, none⟩) (.inl (by simp)) _
end
theorem Rd.same {w w' : World} {g : Nat} {d : D} (h : Rd w g d) (k : But [] w w') : Rd w' g d := Blk.but h k (by simp)

theorem new_any (w : World) : Calls Try.prog 10 #[] w fun e w' =>
    e = .returned (.pointer (some ⟨w.heap.size, 0, none⟩)) ∧ Rd w' w.heap.size (D.st 0) ∧ Below w.heap.size w w' := by
  go_enter Try.func10, Try.ntmps10
  go_wp2
  go_ret
  exact ⟨rfl, Blk.new _ _ _, (Below.refl _ _).alloc (Nat.le_refl _) _⟩

section
variable {w : World} {g : Nat} {d : D}
theorem count_any (h : Rd w g d) : Calls Try.prog 13 #[.pointer (some ⟨g, 0, none⟩)] w fun e w' => e = .returned (.int .i64 (d.n : Int)) ∧ w = w' := by
  have hc2 : w.cell? ⟨g, 2, none⟩ = some (.int .i64 (d.n : Int)) := by rw [Blk.cell h]; rfl
  clear h
  go_enter Try.func13, Try.ntmps13
  go_wp2
  go_ret
  exact ⟨rfl, rfl⟩
theorem open_any (h : Rd w g d) : Calls Try.prog 14 #[.pointer (some ⟨g, 0, none⟩)] w fun e w' => e = .returned (.bool (decide (d.e = 0 ∧ d.a ≠ 0))) ∧ w = w' := by
  have hc0 : w.cell? ⟨g, 0, none⟩ = some (.int .i64 (d.a : Int)) := by rw [Blk.cell h]; rfl
  have hc3 : w.cell? ⟨g, 3, none⟩ = some (.int .i64 (d.e : Int)) := by rw [Blk.cell h]; rfl
  clear h
  obtain ⟨a, l, n, e⟩ := d
  simp only at hc0 hc3
  by_cases he : e = 0
  · subst he
    by_cases ha : a = 0
    · subst ha
      go_enter Try.func14, Try.ntmps14
      go_wp2
      go_ret
      exact ⟨rfl, rfl⟩
    · have H := Lib.hid (show decide ((0 : Nat) = 0 ∧ a ≠ 0) = true from decide_eq_true ⟨rfl, ha⟩)
      go_enter Try.func14, Try.ntmps14
      go_wp2
      go_ret
      exact ⟨by simp [ha], rfl⟩
  · have H := Lib.hid (show decide (e = 0 ∧ a ≠ 0) = false from decide_eq_false (fun h => he h.1))
    go_enter Try.func14, Try.ntmps14
    go_wp2
    go_ret
    exact ⟨by simp [he], rfl⟩
end

theorem pay_any {w : World} {g l n : Nat} (h : Rd w g ⟨5, l, n, 0⟩) (hl : 1 ≤ l ∧ l ≤ 65535) (hn : n ≤ 4611686018427387904) (c : UInt8) :
    Calls Try.prog 19 #[.pointer (some ⟨g, 0, none⟩)] w fun e w' => e = .returned (.tuple #[]) ∧ Rd w' g (stepD ⟨5, l, n, 0⟩ c) ∧ But [g] w w' := by
  have HB := Lib.hid h
  have hc0 : w.cell? ⟨g, 0, none⟩ = some (.int .i64 5) := by rw [Blk.cell h]; rfl
  have hc1 : w.cell? ⟨g, 1, none⟩ = some (.int .i64 (l : Int)) := by rw [Blk.cell h]; rfl
  have hc2 : w.cell? ⟨g, 2, none⟩ = some (.int .i64 (n : Int)) := by rw [Blk.cell h]; rfl
  have hf0 := Blk.frozen h 0
  have hf1 := Blk.frozen h 1
  have hf2 := Blk.frozen h 2
  clear h
  by_cases h1 : l = 1
  · subst h1
    go_enter Try.func19, Try.ntmps19
    go_wp2
    go_end0
    exact ⟨rfl, blk_0 (blk_2 (blk_1 HB.out)), but_set (but_set (but_set (But.refl _ _) _ _) _ _) _ _⟩
  · have hs : stepD ⟨5, l, n, 0⟩ c = ⟨5, l - 1, n, 0⟩ := by
      unfold stepD
      rw [if_neg (by simp), if_neg (by simp), if_neg (by simp), if_neg (by simp), if_neg (by simp), if_neg (by simp), if_neg h1]
    have HS := Lib.hid hs
    obtain ⟨m, rfl⟩ : ∃ m, l = m + 1 := ⟨l - 1, by omega⟩
    have hm : (m : Int) ≠ 0 := by omega
    clear hs h1
    go_enter Try.func19, Try.ntmps19
    go_wp2
    go_end0
    refine ⟨rfl, ?_, but_set (But.refl _ _) _ _⟩
    rw [HS.out]
    have hb := blk_1 (x := .int .i64 (m : Int)) HB.out
    first | exact hb | (simpa using hb)

end Go.Proofs.Ytgjgffiogknefaa.Rc
