/-
  law18's Few and alpns over this seat's translation; two tries side by side, over the contracts of package trie. No condition.
-/
import Derived.Test.YtlpondbcnfaggaaGreatDoorR14
namespace Go.Proofs.YtlpondbcnfaggaaGreatDoor.Tr
open Go.RowKit Go.Proofs.YtlpondbcnfaggaaGreatDoor.Wd Go.Proofs.YtlpondbcnfaggaaGreatDoor.Asc Go.Proofs.YtlpondbcnfaggaaGreatDoor.Tx Go.Proofs.YtlpondbcnfaggaaGreatDoor.St

/-- rules are few, and short -/
def fewU (l : List Ru) : Bool := (l.all fun r => decide (r.pa.length ≤ 300 ∧ r.ap.length ≤ 300)) && decide (l.length ≤ 220)
theorem few_len {l : List Ru} (h : fewU l = true) : l.length ≤ 220 ∧ ∀ r ∈ l, r.pa.length ≤ 300 ∧ r.ap.length ≤ 300 := by
  unfold fewU at h
  simp only [Bool.and_eq_true, List.all_eq_true, decide_eq_true_eq] at h
  exact ⟨h.2, h.1⟩
theorem few_no {l : List Ru} {r : Ru} (hr : r ∈ l) (h : ¬ (r.pa.length ≤ 300 ∧ r.ap.length ≤ 300)) : fewU l = false := by
  unfold fewU
  rw [Bool.and_eq_false_iff]
  refine .inl ?_
  rw [List.all_eq_false]
  exact ⟨r, hr, by simpa using h⟩
theorem few_yes {l : List Ru} (h : ∀ r ∈ l, r.pa.length ≤ 300 ∧ r.ap.length ≤ 300) : fewU l = decide (l.length ≤ 220) := by
  unfold fewU
  rw [List.all_eq_true.2 (fun r hr => decide_eq_true (h r hr)), Bool.true_and]
set_option linter.unusedSimpArgs false in
set_option maxRecDepth 100000 in
set_option maxHeartbeats 4000000 in
theorem few_any (l : List Ru) (A : Option Addr) (n c : Nat) (w : World) (hl : SrcU w A l) (hn : l.length = n) (h9 : n ≤ 9223372036854775807) (hz : ∀ r ∈ l, r.pa.length ≤ 9223372036854775807 ∧ r.ap.length ≤ 9223372036854775807) :
    Calls Tryz.prog 18 #[.slice A n c] w fun e w' => e = .returned (.bool (fewU l)) ∧ w = w' := by
  have HS := Lib.hid hl
  have HN := Lib.hid hn
  have HZ := Lib.hid hz
  clear hl hn hz
  go_enter Tryz.func18, Tryz.ntmps18
  go_wp2_with fail
  go_loopw [3] (fun x3 wr => ∃ (k : Nat), wr = w ∧ k ≤ n ∧ x3 = .int .i64 (k : Nat) ∧ Hid (∀ r ∈ l.take k, r.pa.length ≤ 300 ∧ r.ap.length ≤ 300)) (fun x3 _ => n - (intOf x3).toNat)
  case atStart => exact ⟨0, rfl, Nat.zero_le _, rfl, Lib.hid (fun r h => by simp at h)⟩
  case round =>
    obtain ⟨k, rfl, hk, rfl, HQ⟩ := hrel
    by_cases hlt : k < n
    · have hki : (k : Int) < (n : Int) := by omega
      obtain ⟨r, g, o, hr, rfl, hg, h0, h1, h2, h3, h4⟩ := HS.out.get (wr := wr) (k := k) (by rw [HN.out]; exact hlt) (Below.refl _ _)
      obtain ⟨PA, hPA⟩ : ∃ A, str r.pa = A := ⟨_, rfl⟩
      obtain ⟨AP, hAP⟩ : ∃ A, str r.ap = A := ⟨_, rfl⟩
      rw [hPA] at h2
      rw [hAP] at h4
      have y1 : PA.size = r.pa.length := by rw [← hPA, str_size]
      have y2 : AP.size = r.ap.length := by rw [← hAP, str_size]
      have hrm : r ∈ l := List.mem_of_getElem? hr
      obtain ⟨m1, m2⟩ := HZ.out r hrm
      have HR := Lib.hid hrm
      have HK := Lib.hid hr
      have Y1 := Lib.hid y1
      have Y2 := Lib.hid y2
      have j1 : PA.size ≤ 9223372036854775807 := by omega
      have j2 : AP.size ≤ 9223372036854775807 := by omega
      clear hr hPA hAP h0 h1 h3 hg m1 m2 y1 y2 hrm
      by_cases p1 : 300 < PA.size
      · have i1 : (300 : Int) < (PA.size : Int) := by omega
        have HE := Lib.hid (few_no HR.out (by have := Y1.out; omega))
        clear p1
        go_wp2_with fail
        go_ret
        exact ⟨by rw [HE.out]; rfl, rfl⟩
      have i1 : ¬ (300 : Int) < (PA.size : Int) := by omega
      by_cases p2 : 300 < AP.size
      · have i2 : (300 : Int) < (AP.size : Int) := by omega
        have HE := Lib.hid (few_no HR.out (by have := Y2.out; omega))
        clear p1 p2
        go_wp2_with fail
        go_ret
        exact ⟨by rw [HE.out]; rfl, rfl⟩
      have i2 : ¬ (300 : Int) < (AP.size : Int) := by omega
      have HQ2 := Lib.hid (show ∀ r ∈ l.take (k + 1), r.pa.length ≤ 300 ∧ r.ap.length ≤ 300 from fun z hz => by
        rw [List.take_add_one, HK.out] at hz
        rcases List.mem_append.1 hz with hz | hz
        · exact HQ.out z hz
        · have e : z = r := by simpa using hz
          have := Y1.out
          have := Y2.out
          rw [e]; omega)
      clear p1 p2
      go_wp2_with fail
      go_roundw
      case rel => exact ⟨k + 1, by first | rfl | trivial, by omega, by go_num, HQ2⟩
      case measure => simp [intOf]; omega
    · have hki : ¬ (k : Int) < (n : Int) := by omega
      have HE := Lib.hid (few_yes (l := l) (fun r hr => HQ.out r (by rw [List.take_of_length_le (by rw [HN.out]; omega)]; exact hr)))
      rw [HN.out] at HE
      have q : decide ((n : Int) ≤ 220) = decide (n ≤ 220) := by rw [decide_eq_decide]; omega
      obtain ⟨b, hb⟩ : ∃ b, decide (n ≤ 220) = b := ⟨_, rfl⟩
      rw [hb] at q HE
      clear hb
      go_wp2_with fail
      go_ret
      exact ⟨by rw [HE.out]; rfl, rfl⟩
theorem alpns_any (A : Option Addr) (n c : Nat) (w : World) (b : Bool) (hb : decide (n ≤ 20) = b) (h9 : n ≤ 9223372036854775807) :
    Calls Tryz.prog 19 #[.slice A n c] w fun e w' => e = .returned (.bool b) ∧ w = w' := by
  have q : decide ((n : Int) ≤ 20) = b := by rw [← hb, decide_eq_decide]; omega
  clear hb
  go_enter Tryz.func19, Tryz.ntmps19
  go_wp2_with fail
  go_ret
  first | exact ⟨rfl, rfl⟩ | exact ⟨trivial, rfl⟩ | exact ⟨trivial, trivial⟩

/-- two tries side by side, all their blocks from B on -/
structure Two (Tri : World → Nat → List Nat → List Ru → Prop) (B : Nat) (w : World) (g1 : Nat) (S1 : List Nat) (L1 : List Ru) (g2 : Nat) (S2 : List Nat) (L2 : List Ru) : Prop where
  t1 : Tri w g1 S1 L1
  t2 : Tri w g2 S2 L2
  far1 : ∀ i ∈ g1 :: S1, B ≤ i
  far2 : ∀ i ∈ g2 :: S2, B ≤ i
  off : ∀ i ∈ g1 :: S1, i ∉ g2 :: S2
section
variable {Tri : World → Nat → List Nat → List Ru → Prop} {B : Nat} {w w' : World} {g1 g2 : Nat} {S1 S2 S : List Nat} {L1 L2 L : List Ru}
theorem Two.swap (h : Two Tri B w g1 S1 L1 g2 S2 L2) : Two Tri B w g2 S2 L2 g1 S1 L1 := ⟨h.t2, h.t1, h.far2, h.far1, fun i hi hj => h.off i hj hi⟩
theorem Two.on (C : TrC Tri) (h : Two Tri B w g1 S1 L1 g2 S2 L2) (hb : Below w.heap.size w w') : Two Tri B w' g1 S1 L1 g2 S2 L2 := ⟨C.below h.t1 hb, C.below h.t2 hb, h.far1, h.far2, h.off⟩
/-- what turned lies elsewhere -/
theorem Two.but (C : TrC Tri) (h : Two Tri B w g1 S1 L1 g2 S2 L2) (hb : But S w w') (hS : ∀ i ∈ S, i < B) : Two Tri B w' g1 S1 L1 g2 S2 L2 :=
  ⟨C.but h.t1 hb (fun i hi hm => by have := h.far1 i hi; have := hS i hm; omega), C.but h.t2 hb (fun i hi hm => by have := h.far2 i hi; have := hS i hm; omega), h.far1, h.far2, h.off⟩
/-- the first one grows -/
theorem Two.add (C : TrC Tri) (h : Two Tri B w g1 S1 L1 g2 S2 L2) (hB : B ≤ w.heap.size) (ht : Tri w' g1 S L) (hS : ∀ i ∈ S, i ∈ S1 ∨ w.heap.size ≤ i) (hb : But (g1 :: S1) w w') : Two Tri B w' g1 S L g2 S2 L2 ∧ Below B w w' := by
  refine ⟨⟨ht, C.but h.t2 hb (fun i hi hm => h.off i hm hi), fun i hi => ?_, h.far2, fun i hi hj => ?_⟩, hb.below h.far1 hB⟩
  · rcases List.mem_cons.1 hi with hi | hi
    · rw [hi]; exact h.far1 g1 (by simp)
    · rcases hS i hi with hi | hi
      · exact h.far1 i (List.mem_cons_of_mem _ hi)
      · omega
  · rcases List.mem_cons.1 hi with hi | hi
    · exact h.off i (by rw [hi]; simp) hj
    · rcases hS i hi with hi | hi
      · exact h.off i (List.mem_cons_of_mem _ hi) hj
      · have := C.lts h.t2 i hj
        omega
/-- two new ones -/
theorem Two.new (C : TrC Tri) (ht : Tri w g1 S1 L1) (h1 : ∀ i ∈ g1 :: S1, B ≤ i) (hb : Below w.heap.size w w') (h2 : Tri w' g2 S2 L2) (hf : ∀ i ∈ g2 :: S2, w.heap.size ≤ i) (hB : B ≤ w.heap.size) : Two Tri B w' g1 S1 L1 g2 S2 L2 :=
  ⟨C.below ht hb, h2, h1, fun i hi => by have := hf i hi; omega, fun i hi hj => by have := C.lts ht i hi; have := hf i hj; omega⟩
end
end Go.Proofs.YtlpondbcnfaggaaGreatDoor.Tr
