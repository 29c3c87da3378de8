/-
  Contract of package peek's Add over this seat's translation; a buffer of the call's own.
-/
import Derived.Test.YtnmfgimcclpfbaaPkFns
import Derived.Deep.QuietTactic
import Derived.BigQuiet
namespace Go.Proofs.Ytnmfgimcclpfbaa.Pk
open Go.RowKit Go.Proofs.Ytnmfgimcclpfbaa.Wd

/-- how many of n there is room for -/
def roomK (M c n : Nat) : Nat := min n (M - c)
theorem quietD {P : Program} {f : FuncId} {args : Array Value} {w : World} {n : Nat} {v : Value} (h : Calls P f args (w.drewN n) fun e w' => e = .returned v ∧ w.drewN n = w') :
    Calls P f args (w.drewN n) fun e w'' => e = .returned v ∧ ∃ m, w'' = w.drewN m := h.mono fun _ _ ⟨he, hm⟩ => ⟨he, n, hm.symm⟩
def AddPost (g : Nat) (p : Option Nat) (M : Nat) (bs : List UInt8) (cur : Nat) (ov : Bool) (n : Nat) (b : List UInt8) (w : World) (e : Ending) (w' : World) : Prop :=
  e = .returned (.int .i64 ((roomK M bs.length n : Nat) : Int)) ∧ ∃ p', Pk w' g p' M (bs ++ b.take (roomK M bs.length n)) cur (ov || decide (roomK M bs.length n < n)) ∧ (p' = p ∨ p' = some w.heap.size) ∧ But (g :: p.toList) w w'
set_option maxHeartbeats 1000000 in
theorem add_any {g M cur : Nat} {p : Option Nat} {bs : List UInt8} {ov : Bool} {w : World} (h : Pk w g p M bs cur ov) (hM : M ≤ 16384) (A : Option Addr) (n c : Nat) (b : List UInt8) (hs : Src w A n b) (hnc : n ≤ c) :
    Calls Try.prog 12 #[.pointer (some ⟨g, 0, none⟩), .slice A n c] w (AddPost g p M bs cur ov n b w) := by
  have hne := h.ne
  obtain ⟨c0, hb, ha, h1, h2⟩ := h
  have hkn : roomK M bs.length n ≤ n := Nat.min_le_left _ _
  have hkM : roomK M bs.length n ≤ M - bs.length := Nat.min_le_right _ _
  have HW := Lib.hid (show withI (n : Int) 0 ((M - bs.length : Nat) : Int) = ((roomK M bs.length n : Nat) : Int) from by
    rw [clampK_eq, clampK_len]; rfl)
  have HLn := Lib.hid (show (bs ++ b.take (roomK M bs.length n)).length = bs.length + roomK M bs.length n from by rw [List.length_append, List.length_take, hs.1]; omega)
  have HS := Lib.hid (hs.take hkn)
  have hwr : IntKind.i64.wrap ((M : Int) - (bs.length : Int)) = ((M - bs.length : Nat) : Int) := by rw [IntWalk.i64_in _ (by omega)]; omega
  have hsl := fun w' => slice_to und8 siz8 A n c w' (roomK M bs.length n) (by omega)
  have hc0 : w.cell? ⟨g, 0, none⟩ = some (.int .i64 (M : Int)) := by rw [hb.cell]; rfl
  have hc1 : w.cell? ⟨g, 1, none⟩ = some (.slice (ad p) bs.length c0) := by rw [hb.cell]; rfl
  have hltg := hb.lt
  have HB := Lib.hid hb
  have HA := Lib.hid ha
  have HNE := Lib.hid hne
  show Calls _ _ _ _ (fun e w' => e = .returned (.int .i64 ((roomK M bs.length n : Nat) : Int)) ∧ ∃ p', Pk w' g p' M (bs ++ b.take (roomK M bs.length n)) cur (ov || decide (roomK M bs.length n < n)) ∧ (p' = p ∨ p' = some w.heap.size) ∧ But (g :: p.toList) w w')
  clear hb ha hs hne
  generalize hbk : b.take (roomK M bs.length n) = bk at *
  clear hbk
  generalize roomK M bs.length n = k at *
  generalize hm : bs.length = m at *
  have HM := Lib.hid hm
  clear hm
  have HWith := Lib.hid (fun j => quietD (with_any (n : Int) 0 ((M - m : Nat) : Int) (w.drewN j)))
  rw [HW.out] at HWith
  clear HW
  go_enter Try.func12, Try.ntmps12
  go_wp2_with fail
  go_quiet (first | (go_at_call 21; exact HWith.out _))
  go_wp2_with fail
  have HB1 := Lib.hid (show Blk (w.drewN nq) g _ _ from HB.out)
  have HA1 := Lib.hid (HA.out.but ((But.refl [] w).drewN nq) (by simp))
  have HS1 := Lib.hid (show Src (w.drewN nq) A k bk from HS.out)
  have HL1 := Lib.hid (show But (g :: p.toList) w (w.drewN nq) from (But.refl _ w).drewN nq)
  have HZ := Lib.hid (show (w.drewN nq).heap.size = w.heap.size from rfl)
  have hlt1 : g < (w.drewN nq).heap.size := hltg
  have hq1 : (w.drewN nq).cell? ⟨g, 1, none⟩ = some (.slice (ad p) m c0) := hc1
  clear HB HA HS hc0 hc1 HWith hwr
  generalize w.drewN nq = w1 at *
  have hgp : g ∉ p.toList := by
    intro hx
    rw [Option.mem_toList] at hx
    exact HNE.out hx
  go_region_law (first
    | (refine step_app_at (some 27) rfl rfl (.tmp 23) (.tmp 26) 29 rfl und8 inf8 p m c0 bs rfl HM.out.symm (by exact HA1.out.but ((But.refl [] w1).drew) (by simp)) A k c bk rfl (by exact HS1.out) (by omega) ?_; intro p2 c2 w2 HA2 HP2 HU2; have q2 : w2.cell? ⟨g, 1, none⟩ = some (.slice (ad p) m c0) := (HU2.out.cell (p := ⟨g, 1, none⟩) (by exact hlt1) hgp).trans hq1; have hfr2 : w2.frozen? ⟨g, 1, none⟩ = false := (HB1.out.but (w := w1.drew) HU2.out hgp).frozen 1))
  have hne2 : p2 ≠ some g := by
    rcases HP2.out with h | h
    · rw [h]; exact HNE.out
    · rw [h]
      intro e
      injection e with e
      have : w1.drew.heap.size = w1.heap.size := rfl
      omega
  have HN2 := Lib.hid hne2
  have HP3 := Lib.hid (show p2 = p ∨ p2 = some w.heap.size from by
    rcases HP2.out with h | h
    · exact .inl h
    · exact .inr (h.trans (congrArg some (show w1.drew.heap.size = w.heap.size from HZ.out))))
  have HL2 := Lib.hid (show But (g :: p.toList) w w2 from HL1.out.trans (((But.refl (g :: p.toList) w1).drew).trans (HU2.out.more (fun i hi => List.mem_cons_of_mem _ hi))))
  have hb2 : Blk w2 g 47 #[.int .i64 (M : Int), .slice (ad p) m c0, .int .i64 (cur : Int), .bool ov] := HB1.out.but (w := w1.drew) HU2.out hgp
  have hbut : But [g] w2 (w2.setCell ⟨g, 1, none⟩ (.slice (ad p2) (m + k) c2)) := (But.refl _ _).set_ (p := ⟨g, 1, none⟩) (.inl (by simp)) _
  have hb3 : Blk (w2.setCell ⟨g, 1, none⟩ (.slice (ad p2) (m + k) c2)) g 47 #[.int .i64 (M : Int), .slice (ad p2) (m + k) c2, .int .i64 (cur : Int), .bool ov] := by
    have h := hb2.set_ 1 (.slice (ad p2) (m + k) c2)
    rw [set4_1] at h
    exact h
  have HA3 := Lib.hid (HA2.out.but hbut (fun b hb hm => by simp at hm; subst hm; exact hne2 hb))
  have HL3 := Lib.hid (HL2.out.trans (hbut.more (T := g :: p.toList) (by simp)))
  have HB3 := Lib.hid hb3
  clear hb2 hbut hb3 q2 hfr2 hq1 HU2 HL1 HL2 HA1 HA2 HB1 HS1 HP2 hsl hne2
  generalize w2.setCell ⟨g, 1, none⟩ (.slice (ad p2) (m + k) c2) = w3 at *
  by_cases hkl : k < n
  · have HD := Lib.hid (show (ov || decide (k < n)) = true from by rw [decide_eq_true hkl, Bool.or_true])
    have hki : decide ((k : Int) < (n : Int)) = true := decide_eq_true (by omega)
    have hc3 : w3.cell? ⟨g, 3, none⟩ = some (.bool ov) := by rw [HB3.out.cell]; rfl
    have hf3 := HB3.out.frozen 3
    go_wp2_with fail
    go_ret
    have hbut : But [g] w3 (w3.setCell ⟨g, 3, none⟩ (.bool true)) := (But.refl _ _).set_ (p := ⟨g, 3, none⟩) (.inl (by simp)) _
    refine ⟨rfl, p2, ⟨c2, ?_, HA3.out.but hbut (fun b hb hm => by simp at hm; subst hm; exact HN2.out hb), by rw [HLn.out]; omega, by rw [HLn.out]; omega⟩, HP3.out, HL3.out.trans (hbut.more (by simp))⟩
    have h := HB3.out.set_ 3 (.bool true)
    rw [set4_3] at h
    rw [HLn.out, HD.out]
    exact h
  · have HD := Lib.hid (show (ov || decide (k < n)) = ov from by rw [decide_eq_false hkl, Bool.or_false])
    have hki : decide ((k : Int) < (n : Int)) = false := decide_eq_false (by omega)
    go_wp2_with fail
    go_ret
    refine ⟨rfl, p2, ⟨c2, ?_, HA3.out, by rw [HLn.out]; omega, by rw [HLn.out]; omega⟩, HP3.out, HL3.out⟩
    rw [HLn.out, HD.out]
    exact HB3.out

/-- a buffer of the call's own, behind what was there before the call: B blocks of w -/
structure Kept (B : Nat) (w w' : World) (g : Nat) (p : Option Nat) (M : Nat) (bs : List UInt8) (cur : Nat) (ov : Bool) : Prop where
  pk : Pk w' g p M bs cur ov
  bel : Below B w w'
  hg : B ≤ g
  hp : ∀ b, p = some b → B ≤ b
  hB : B ≤ w'.heap.size
section
variable {B : Nat} {w a b : World} {g M cur : Nat} {p : Option Nat} {bs : List UInt8} {ov : Bool}
theorem Kept.same (h : Kept B w a g p M bs cur ov) (k : But [] a b) : Kept B w b g p M bs cur ov :=
  ⟨h.pk.same k, h.bel.trans (k.below (by simp) h.hB), h.hg, h.hp, Nat.le_trans h.hB k.size⟩
theorem Kept.drewN (h : Kept B w a g p M bs cur ov) (k : Nat) : Kept B w (a.drewN k) g p M bs cur ov := h.same ((But.refl [] a).drewN k)
theorem Kept.beside {S : List Nat} (h : Kept B w a g p M bs cur ov) (k : But S a b) (hg : g ∉ S) (hp : ∀ i ∈ S, p ≠ some i) (hb : Below B w b) : Kept B w b g p M bs cur ov :=
  ⟨h.pk.but k hg (fun b hb hm => hp b hm hb), hb, h.hg, h.hp, Nat.le_trans h.hB k.size⟩
theorem Kept.le (h : Kept B w a g p M bs cur ov) : cur ≤ bs.length ∧ bs.length ≤ M := h.pk.le
theorem new_kept (most : Int) (w w1 : World) {B : Nat} (hb : Below B w w1) (hB : B ≤ w1.heap.size) :
    Calls Try.prog 10 #[.int .i64 most] w1 fun e w' => ∃ g, e = .returned (.pointer (some ⟨g, 0, none⟩)) ∧ Kept B w w' g none (mostR most) [] 0 false ∧ Below w1.heap.size w1 w' ∧ g = w1.heap.size :=
  (new_any most w1).mono fun e w' ⟨he, hr, hb'⟩ => ⟨_, he, ⟨hr, hb.trans (hb'.mono hB), hB, fun b h => (by cases h), Nat.le_trans hB hb'.size⟩, hb', rfl⟩
theorem add_kept (h : Kept B w a g p M bs cur ov) (hM : M ≤ 16384) (A : Option Addr) (n c : Nat) (b : List UInt8) (hs : Src a A n b) (hnc : n ≤ c) :
    Calls Try.prog 12 #[.pointer (some ⟨g, 0, none⟩), .slice A n c] a fun e w' =>
      e = .returned (.int .i64 ((roomK M bs.length n : Nat) : Int)) ∧ ∃ p', Kept B w w' g p' M (bs ++ b.take (roomK M bs.length n)) cur (ov || decide (roomK M bs.length n < n)) ∧ (p' = p ∨ p' = some a.heap.size) ∧ But (g :: p.toList) a w' :=
  (add_any h.pk hM A n c b hs hnc).mono fun e w' ⟨he, p', hr, hp', hb⟩ => by
    refine ⟨he, p', ⟨hr, h.bel.trans (hb.below ?_ h.hB), h.hg, ?_, Nat.le_trans h.hB hb.size⟩, hp', hb⟩
    · intro i hi
      rcases List.mem_cons.1 hi with rfl | hi
      · exact h.hg
      · exact h.hp i (Option.mem_toList.1 hi)
    · intro x hx
      rcases hp' with e | e
      · exact h.hp x (e ▸ hx)
      · rw [hx] at e
        injection e with e
        have := h.hB
        omega
theorem next_kept (h : Kept B w a g p M bs cur ov) (hM : M ≤ 16384) (n : Int) :
    Calls Try.prog 14 #[.pointer (some ⟨g, 0, none⟩), .int .i64 n] a fun e w' =>
      ∃ v, e = .returned v ∧ Own w' a.heap.size v ((bs.drop cur).take (clampK n (bs.length - cur))) ∧ Kept B w w' g p M bs (cur + clampK n (bs.length - cur)) ov ∧ But [g] a w' :=
  (next_any h.pk hM n).mono fun e w' ⟨v, he, ho, hr, hb⟩ => ⟨v, he, ho, ⟨hr, h.bel.trans (hb.below (by simpa using h.hg) h.hB), h.hg, h.hp, Nat.le_trans h.hB hb.size⟩, hb⟩
theorem back_kept (h : Kept B w a g p M bs cur ov) :
    Calls Try.prog 16 #[.pointer (some ⟨g, 0, none⟩)] a fun e w' => e = .returned (.tuple #[]) ∧ Kept B w w' g p M bs 0 ov ∧ But [g] a w' :=
  (back_any h.pk).mono fun e w' ⟨he, hr, hb⟩ => ⟨he, ⟨hr, h.bel.trans (hb.below (by simpa using h.hg) h.hB), h.hg, h.hp, Nat.le_trans h.hB hb.size⟩, hb⟩
theorem bytes_kept (h : Kept B w a g p M bs cur ov) (hM : M ≤ 16384) :
    Calls Try.prog 17 #[.pointer (some ⟨g, 0, none⟩)] a fun e w' => ∃ v, e = .returned v ∧ Own w' a.heap.size v bs ∧ Kept B w w' g p M bs cur ov ∧ But [] a w' :=
  (bytes_any h.pk hM).mono fun _ _ ⟨v, he, ho, hb⟩ => ⟨v, he, ho, h.same (But.of_below hb []), But.of_below hb []⟩
end
end Go.Proofs.Ytnmfgimcclpfbaa.Pk
