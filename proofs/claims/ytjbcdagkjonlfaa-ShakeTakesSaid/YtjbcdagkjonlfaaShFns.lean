/-
  Contracts of package shake's messages over this seat's translation: New, Want, whole, Body, begin, Take.
-/
import Derived.Test.YtjbcdagkjonlfaaShPure
import Derived.Test.YtjbcdagkjonlfaaOwn
import Derived.Test.YtjbcdagkjonlfaaRcBits
import Derived.Deep.QuietTactic
import Derived.BigQuiet
namespace Go.Proofs.Ytjbcdagkjonlfaa.Sh
open Go.RowKit Go.Proofs.Ytjbcdagkjonlfaa.Wd

/-- a message at block g, its body in block p (if it has any memory) -/
def Rd (w : World) (g : Nat) (p : Option Nat) (m : M) : Prop :=
  ∃ c, Blk w g 41 #[.int .i64 (m.h : Int), .int .i64 (m.s : Int), .slice (ad p) m.b.length c, .int .i64 (m.e : Int)] ∧ At w p c m.b
section
variable {w w' : World} {g : Nat} {p : Option Nat} {m : M} {S : List Nat}
theorem Rd.but (h : Rd w g p m) (k : But S w w') (hg : g ∉ S) (hp : ∀ b, p = some b → b ∉ S) : Rd w' g p m := by
  obtain ⟨c, h1, h2⟩ := h
  exact ⟨c, h1.but k hg, h2.but k hp⟩
theorem Rd.same (h : Rd w g p m) (k : But [] w w') : Rd w' g p m := h.but k (by simp) (by simp)
theorem Rd.lt (h : Rd w g p m) : g < w.heap.size := by
  obtain ⟨c, h1, _⟩ := h
  exact h1.lt
theorem Rd.plt (h : Rd w g p m) {b : Nat} (hb : p = some b) : b < w.heap.size := by
  obtain ⟨c, _, h2⟩ := h
  exact h2.lt hb
theorem Rd.ne (h : Rd w g p m) : p ≠ some g := by
  obtain ⟨c, h1, h2⟩ := h
  exact h2.ne h1 (by decide)
end
theorem set4_0 (a b c d x : Value) : (#[a, b, c, d] : Array Value).setIfInBounds 0 x = #[x, b, c, d] := by simp
theorem set4_1 (a b c d x : Value) : (#[a, b, c, d] : Array Value).setIfInBounds 1 x = #[a, x, c, d] := by simp
theorem set4_2 (a b c d x : Value) : (#[a, b, c, d] : Array Value).setIfInBounds 2 x = #[a, b, x, d] := by simp
theorem set4_3 (a b c d x : Value) : (#[a, b, c, d] : Array Value).setIfInBounds 3 x = #[a, b, c, x] := by simp
section
variable {w : World} {g t : Nat} {a b c d x : Value}
theorem blk_0 (h : Blk w g t #[a, b, c, d]) : Blk (w.setCell ⟨g, 0, none⟩ x) g t #[x, b, c, d] := by have := h.set_ 0 x; rwa [set4_0] at this
theorem blk_1 (h : Blk w g t #[a, b, c, d]) : Blk (w.setCell ⟨g, 1, none⟩ x) g t #[a, x, c, d] := by have := h.set_ 1 x; rwa [set4_1] at this
theorem blk_2 (h : Blk w g t #[a, b, c, d]) : Blk (w.setCell ⟨g, 2, none⟩ x) g t #[a, b, x, d] := by have := h.set_ 2 x; rwa [set4_2] at this
theorem blk_3 (h : Blk w g t #[a, b, c, d]) : Blk (w.setCell ⟨g, 3, none⟩ x) g t #[a, b, c, x] := by have := h.set_ 3 x; rwa [set4_3] at this
theorem but_set {w0 : World} (h : But [g] w0 w) (o : Nat) (x : Value) : But [g] w0 (w.setCell ⟨g, o, none⟩ x) := h.set_ (p := ⟨g, o, none⟩) (.inl (by simp)) _
end

theorem new_any (w : World) : Calls Try.prog 10 #[] w fun e w' =>
    e = .returned (.pointer (some ⟨w.heap.size, 0, none⟩)) ∧ Rd w' w.heap.size none M.st ∧ Below w.heap.size w w' := by
  go_enter Try.func10, Try.ntmps10
  go_wp2
  go_ret
  exact ⟨rfl, ⟨0, Blk.new _ _ _, At.nil _⟩, (Below.refl _ _).alloc (Nat.le_refl _) _⟩

section
variable {w : World} {g : Nat} {p : Option Nat} {m : M}
theorem want_any (h : Rd w g p m) (k : OkM m) : Calls Try.prog 13 #[.pointer (some ⟨g, 0, none⟩)] w fun e w' => e = .returned (.int .i64 (wantM m : Int)) ∧ ∃ n, w' = w.drewN n := by
  obtain ⟨c, hb, -⟩ := h
  obtain ⟨h, s, b, e⟩ := m
  have h4 := k.h4
  have few := k.few
  have bd := k.bd
  simp only at h4 few bd hb
  have hc0 : w.cell? ⟨g, 0, none⟩ = some (.int .i64 (h : Int)) := by rw [hb.cell]; rfl
  have hc1 : w.cell? ⟨g, 1, none⟩ = some (.int .i64 (s : Int)) := by rw [hb.cell]; rfl
  have hc2 : w.cell? ⟨g, 2, none⟩ = some (.slice (ad p) b.length c) := by rw [hb.cell]; rfl
  have hc3 : w.cell? ⟨g, 3, none⟩ = some (.int .i64 (e : Int)) := by rw [hb.cell]; rfl
  clear hb k
  by_cases he : e = 0
  · subst he
    have few := few rfl
    have bd := bd rfl
    by_cases h3 : h < 4
    · have HW := Lib.hid (show wantM ⟨h, s, b, 0⟩ = 4 - h from by unfold wantM; rw [if_neg (by simp), if_pos h3])
      rw [HW.out]
      have h3i : (h : Int) < 4 := by omega
      have hsub : ((4 - h : Nat) : Int) = 4 - (h : Int) := by omega
      rw [hsub]
      clear hsub few bd HW
      go_enter Try.func13, Try.ntmps13
      go_wp2
      go_ret
      exact ⟨rfl, 0, rfl⟩
    · have HW := Lib.hid (show wantM ⟨h, s, b, 0⟩ = s - b.length from by unfold wantM; rw [if_neg (by simp), if_neg h3])
      rw [HW.out]
      generalize b.length = n at *
      generalize ad p = A at *
      have h3i : ¬ (h : Int) < 4 := by omega
      have hw : IntKind.i64.wrap ((s : Int) - (n : Int)) = ((s - n : Nat) : Int) := by rw [IntWalk.i64_in _ (by omega)]; omega
      clear HW
      go_enter Try.func13, Try.ntmps13
      go_wp2
      go_quiet (fail)
      go_wp2
      go_ret
      exact ⟨rfl, _, rfl⟩
  · have HW := Lib.hid (show wantM ⟨h, s, b, e⟩ = 0 from by unfold wantM; rw [if_pos he])
    rw [HW.out]
    have hei : (e : Int) ≠ 0 := by omega
    clear few bd HW
    go_enter Try.func13, Try.ntmps13
    go_wp2
    go_ret
    exact ⟨rfl, 0, rfl⟩
theorem whole_any (h : Rd w g p m) (k : OkM m) : Calls Try.prog 20 #[.pointer (some ⟨g, 0, none⟩)] w fun e w' => e = .returned (.bool (wholeM m)) ∧ ∃ n, w' = w.drewN n := by
  have HC := Lib.hid (want_any h k)
  obtain ⟨c, hb, -⟩ := h
  have hc3 : w.cell? ⟨g, 3, none⟩ = some (.int .i64 (m.e : Int)) := by rw [hb.cell]; rfl
  clear hb
  by_cases he : m.e = 0
  · have HW := Lib.hid (show wholeM m = decide (wantM m = 0) from by unfold wholeM; simp [he])
    rw [HW.out]
    clear HW
    rw [he] at hc3
    generalize wantM m = n at *
    have HD := Lib.hid (show ((n : Int) == 0) = decide (n = 0) from by rw [Bool.eq_iff_iff]; simp)
    clear k he
    go_enter Try.func20, Try.ntmps20
    go_wp2_with fail
    refine HC.out.mono ?_
    rintro e w1 ⟨rfl, q, rfl⟩
    go_wp2_with fail
    go_ret
    rw [← HD.out]
    exact ⟨rfl, q, rfl⟩
  · have HW := Lib.hid (whole_bad he)
    rw [HW.out]
    have hei : (m.e : Int) ≠ 0 := by omega
    clear HW HC
    generalize m.e = e at *
    go_enter Try.func20, Try.ntmps20
    go_wp2_with fail
    go_ret
    exact ⟨rfl, 0, rfl⟩
theorem body_any (h : Rd w g p m) (k : OkM m) : Calls Try.prog 15 #[.pointer (some ⟨g, 0, none⟩)] w fun e w' => ∃ v, e = .returned v ∧ Own w' w.heap.size v (bodyM m) ∧ Below w.heap.size w w' := by
  have HC := Lib.hid (whole_any h k)
  have HB := Lib.hid (show bodyM m = if wholeM m then m.b else [] from rfl)
  rw [HB.out]
  have hbl := k.bl
  obtain ⟨c, hb, ha⟩ := h
  have hc2 : w.cell? ⟨g, 2, none⟩ = some (.slice (ad p) m.b.length c) := by rw [hb.cell]; rfl
  have HA := Lib.hid ha.src.2
  clear hb k HB ha
  generalize m.b = b at *
  cases hw : wholeM m with
  | false =>
    rw [hw] at HC
    rw [if_neg (by simp)]
    go_enter Try.func15, Try.ntmps15
    go_wp2_with fail
    refine HC.out.mono ?_
    rintro e w1 ⟨rfl, q, rfl⟩
    go_wp2_with fail
    go_ret
    exact ⟨_, rfl, ⟨rfl, .inl ⟨rfl, rfl⟩⟩, below_drewN (Below.refl _ _) _⟩
  | true =>
    rw [hw] at HC
    rw [if_pos rfl]
    have HCl := Lib.hid (fun n => bclone_any (w.drewN n) (ad p) b.length c b HA.out (by omega))
    generalize b.length = n at *
    generalize ad p = A at *
    go_enter Try.func15, Try.ntmps15
    go_wp2_with fail
    refine HC.out.mono ?_
    rintro e w1 ⟨rfl, q, rfl⟩
    go_wp2_with fail
    refine (HCl.out q).mono ?_
    rintro e w2 ⟨v, rfl, hO, hb⟩
    have HO := Lib.hid hO
    have HB2 := Lib.hid hb
    clear hO hb
    go_wp2_with fail
    go_ret
    exact ⟨_, rfl, HO.out, (below_drewN (Below.refl _ _) q).trans HB2.out⟩
end
end Go.Proofs.Ytjbcdagkjonlfaa.Sh
