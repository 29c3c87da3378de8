/-
  Contracts of package policy's next, expect, digits over this seat's translation: the words of a line, one by one. Condition: a line of up to a million bytes.
-/
import Derived.Test.YtlpondbcnfaggaaGreatDoorR21
import Derived.Test.YtlpondbcnfaggaaGreatDoorR22
import Derived.Test.YtlpondbcnfaggaaGreatDoorR36
namespace Go.Proofs.YtlpondbcnfaggaaGreatDoor.Po
open Go.RowKit Go.Proofs.YtlpondbcnfaggaaGreatDoor.Wd Go.Proofs.YtlpondbcnfaggaaGreatDoor.Asc Go.Proofs.YtlpondbcnfaggaaGreatDoor.Tx Go.Proofs.YtlpondbcnfaggaaGreatDoor.St Go.Proofs.YtlpondbcnfaggaaGreatDoor.Tr Go.Proofs.YtlpondbcnfaggaaGreatDoor.Te

/-- its cells -/
def wdC (l : List UInt8) (b : Bool) : Array Value := #[.string (str l), .bool b]
theorem wdC_one (l : List UInt8) (b : Bool) : (wdC l b).all (·.oneCell') = true := by simp [wdC, Value.oneCell']
theorem undW : Tryz.prog.underlying 157 = some (.struct (Tryz.prog.fieldsOf 157)) := by kernel_rfl
theorem infW : (Tryz.prog.info? 157).map (·.size) = some 2 := by kernel_rfl
/-- the words of a line that are not read yet, in a block -/
def WdI (w : World) (x : Nat) (ws : List (List UInt8)) (b : Bool) : Prop := ∃ l : List UInt8, Blk w x 157 (wdC l b) ∧ wordsS l = ws ∧ l.length ≤ 1000000
theorem WdI.but {S : List Nat} {w w' : World} {x : Nat} {ws : List (List UInt8)} {b : Bool} (h : WdI w x ws b) (k : But S w w') (hx : x ∉ S) : WdI w' x ws b := by
  obtain ⟨l, h1, h2⟩ := h
  exact ⟨l, h1.but k hx, h2⟩
theorem WdI.on {w w' : World} {x : Nat} {ws : List (List UInt8)} {b : Bool} (h : WdI w x ws b) (hb : Below w.heap.size w w') : WdI w' x ws b := h.but (But.of_below hb []) (fun hm => by cases hm)
theorem WdI.lt {w : World} {x : Nat} {ws : List (List UInt8)} {b : Bool} (h : WdI w x ws b) : x < w.heap.size := by
  obtain ⟨l, h1, _⟩ := h
  exact h1.lt
theorem WdI.ne {w : World} {x : Nat} {ws : List (List UInt8)} {b : Bool} (h : WdI w x ws b) : ∀ v ∈ ws, v ≠ [] := by
  obtain ⟨l, _, rfl, _⟩ := h
  exact words_ne l
theorem WdI.len {w : World} {x : Nat} {ws : List (List UInt8)} {b : Bool} (h : WdI w x ws b) : (headW ws).length ≤ 1000000 := by
  obtain ⟨l, _, rfl, hl⟩ := h
  have := (next_len l).1
  rw [next_head] at this
  exact Nat.le_trans this hl
theorem blk_set : blank = fun c => [32, 9].contains c := by
  funext c
  unfold blank
  rw [Bool.eq_iff_iff]
  simp
theorem asc_blk : Asci [32, 9] := fun c hc => by
  have h : c = 32 ∨ c = 9 := by simpa using hc
  rcases h with rfl | rfl <;> decide
theorem trim_is (l : List UInt8) : Lib.trimLeftS l [32, 9] = l.dropWhile blank := by
  unfold Lib.trimLeftS
  rw [blk_set]
/-- where the first blank is -/
theorem any_is (T : List UInt8) : Lib.indexAny T [32, 9] = if (T.takeWhile fun c => !blank c).length = T.length then -1 else ((T.takeWhile fun c => !blank c).length : Int) := by
  have hall : ∀ x ∈ T.takeWhile (fun c => !blank c), blank x = false := fun x hx => by
    have := List.all_eq_true.1 (List.all_takeWhile (p := fun c => !blank c) (l := T)) x hx
    simpa using this
  have e := List.takeWhile_append_dropWhile (p := fun c => !blank c) (l := T)
  have hd := drop_head (fun c => !blank c) T
  generalize T.takeWhile (fun c => !blank c) = A at *
  generalize T.dropWhile (fun c => !blank c) = R at *
  have hno : Lib.NoAny (A ++ R) [32, 9] A.length := fun j b hj hb => by
    rw [List.getElem?_append_left hj] at hb
    have := hall b (List.mem_of_getElem? hb)
    have h2 := congrFun (blk_set) b
    rw [this] at h2
    exact h2.symm
  rcases hd with rfl | ⟨c, r, rfl, hc⟩
  · rw [List.append_nil] at e hno
    subst e
    rw [if_pos rfl]
    exact Lib.indexAny_none hno
  · subst e
    rw [if_neg (by rw [List.length_append, List.length_cons]; omega)]
    have hc' : blank c = true := by simpa using hc
    have h2 := congrFun (blk_set) c
    rw [hc'] at h2
    exact Lib.indexAny_hit hno (by rw [List.getElem?_append_right (Nat.le_refl _), Nat.sub_self]; rfl) h2.symm
theorem take_takeW (p : UInt8 → Bool) (T : List UInt8) : T.take (T.takeWhile p).length = T.takeWhile p ∧ T.drop (T.takeWhile p).length = T.dropWhile p := by
  have e := List.takeWhile_append_dropWhile (p := p) (l := T)
  generalize T.takeWhile p = A at *
  generalize T.dropWhile p = R at *
  subst e
  exact ⟨by rw [List.take_append_of_le_length (Nat.le_refl _), List.take_length], by rw [List.drop_append_of_le_length (Nat.le_refl _), List.drop_length, List.nil_append]⟩
set_option linter.unusedSimpArgs false in
set_option maxRecDepth 100000 in
set_option maxHeartbeats 4000000 in
theorem next_at (l : List UInt8) (b : Bool) (x : Nat) (w : World) (h : Blk w x 157 (wdC l b)) (hl : l.length ≤ 1000000) :
    Calls Tryz.prog 106 #[.pointer (some ⟨x, 0, none⟩)] w fun e w' => e = .returned (.string (str (nextT l))) ∧ Blk w' x 157 (wdC (nextR l) b) ∧ But [x] w w' := by
  obtain ⟨T, hT⟩ : ∃ T, l.dropWhile blank = T := ⟨_, rfl⟩
  obtain ⟨k, hk⟩ : ∃ k, (T.takeWhile fun c => !blank c).length = k := ⟨_, rfl⟩
  have hTl : T.length ≤ 1000000 := by
    have := (List.dropWhile_sublist blank (l := l)).length_le
    rw [hT] at this
    exact Nat.le_trans this hl
  obtain ⟨S, hS⟩ : ∃ S, str T = S := ⟨_, rfl⟩
  obtain ⟨m, hm⟩ : ∃ m, S.size = m := ⟨_, rfl⟩
  have hmT : T.length = m := by rw [← hm, ← hS, str_size]
  have hkm : k ≤ m := by
    rw [← hk, ← hmT]
    exact (List.takeWhile_sublist _).length_le
  have HT := Lib.hid (fun w' => show Calls Tryz.prog 143 #[.string (str l), .string ⟨#[32, 9]⟩] w' fun e w'' => e = .returned (.string S) ∧ Below w'.heap.size w' w'' from by
    have h0 : Calls Tryz.prog 143 #[.string (str l), .string ⟨#[32, 9]⟩] w' fun e w'' => e = .returned (.string (str (Lib.trimLeftS l [32, 9]))) ∧ Below w'.heap.size w' w'' := Any.strings_TrimLeft_laid Tryz.lays161 set256 (str l) ⟨#[32, 9]⟩ w' (by decide) (fun j b hb => asc_blk b (List.mem_of_getElem? hb))
    rwa [trim_is, hT, hS] at h0)
  have HI := Lib.hid (fun w' => show Calls Tryz.prog 144 #[.string S, .string ⟨#[32, 9]⟩] w' fun e w'' => e = .returned (.int .i64 (if k = m then -1 else (k : Int))) ∧ Below w'.heap.size w' w'' from by
    have h0 := any_any S ⟨#[32, 9]⟩ w' (by omega) (by decide) (by decide) asc_blk
    rw [← hS, bs_str, show bs ⟨#[32, 9]⟩ = [32, 9] from rfl, any_is, hk, hmT, hS] at h0
    exact h0)
  have HX := Lib.hid (show S.extract 0 k = str (nextT l) ∧ S.extract k m = str (nextR l) from by
    have h1 := take_takeW (fun c => !blank c) T
    rw [hk] at h1
    constructor
    · apply bs_inj
      rw [bs_extract, List.drop_zero, Nat.sub_zero, ← hS, bs_str, bs_str, h1.1]
      unfold nextT
      rw [hT]
    · apply bs_inj
      rw [bs_extract, ← hS, bs_str, bs_str, h1.2, List.take_of_length_le]
      · unfold nextR
        rw [hT]
      · rw [← h1.2, List.length_drop, hmT]
        exact Nat.le_refl _)
  clear hT hk hTl hS hmT
  have H := Lib.hid h
  clear h
  have c0 : w.cell? ⟨x, 0, none⟩ = some (.string (str l)) := H.out.cell 0
  go_enter Tryz.func106, Tryz.ntmps106
  go_wp2_with fail
  refine (HT.out _).mono ?_
  rintro e w1 ⟨rfl, hb1⟩
  have H1 := Lib.hid (H.out.below hb1 H.out.lt)
  have HB1 := Lib.hid hb1
  clear c0 hb1 HT
  go_wp2_with fail
  refine (HI.out _).mono ?_
  rintro e w2 ⟨rfl, hb2⟩
  have H2 := Lib.hid (H1.out.below hb2 H1.out.lt)
  have HB2 := Lib.hid (HB1.out.trans (hb2.mono HB1.out.size))
  clear hb2 HI H1 HB1
  have c0 : w2.cell? ⟨x, 0, none⟩ = some (.string (str l)) := H2.out.cell 0
  have f0 := H2.out.frozen 0
  have HF := Lib.hid (fun (v : ByteArray) (hv : v = str (nextR l)) => show Blk (w2.setCell ⟨x, 0, none⟩ (.string v)) x 157 (wdC (nextR l) b) ∧ But [x] w (w2.setCell ⟨x, 0, none⟩ (.string v)) from by
    constructor
    · have := H2.out.set_ 0 (.string v)
      rw [hv] at this ⊢
      exact this
    · exact (But.of_below HB2.out [x]).set_ (p := ⟨x, 0, none⟩) (.inl (by simp)) _)
  clear H H2 HB2
  by_cases hkm2 : k = m
  · subst hkm2
    rw [if_pos rfl]
    go_wp2_with fail
    go_ret
    exact ⟨by rw [← HX.out.1]; rfl, HF.out _ (by rw [← HX.out.2]; simp)⟩
  · rw [if_neg hkm2]
    go_wp2_with fail
    go_ret
    exact ⟨by rw [← HX.out.1]; rfl, HF.out _ HX.out.2⟩
theorem next_any {w : World} {x : Nat} {ws : List (List UInt8)} {b : Bool} (h : WdI w x ws b) :
    Calls Tryz.prog 106 #[.pointer (some ⟨x, 0, none⟩)] w fun e w' => e = .returned (.string (str (headW ws))) ∧ WdI w' x ws.tail b ∧ But [x] w w' := by
  obtain ⟨l, h1, rfl, h3⟩ := h
  refine (next_at l b x w h1 h3).mono ?_
  rintro e w' ⟨rfl, h4, h5⟩
  exact ⟨by rw [next_head]; rfl, ⟨nextR l, h4, next_tail l, Nat.le_trans (next_len l).2 h3⟩, h5⟩
set_option linter.unusedSimpArgs false in
set_option maxRecDepth 100000 in
set_option maxHeartbeats 4000000 in
theorem expect_any {w : World} {x : Nat} {ws : List (List UInt8)} {b : Bool} (h : WdI w x ws b) (ok : Bool) :
    Calls Tryz.prog 171 #[.pointer (some ⟨x, 0, none⟩), .bool ok] w fun e w' => e = .returned (.tuple #[]) ∧ WdI w' x ws (b || !ok) ∧ But [x] w w' := by
  obtain ⟨l, h1, hws, h3⟩ := h
  have c1 : w.cell? ⟨x, 1, none⟩ = some (.bool b) := h1.cell 1
  have f1 := h1.frozen 1
  have HF := Lib.hid (fun v => show WdI (w.setCell ⟨x, 1, none⟩ (.bool v)) x ws v ∧ But [x] w (w.setCell ⟨x, 1, none⟩ (.bool v)) from
    ⟨⟨l, h1.set_ 1 (.bool v), hws, h3⟩, (But.refl [x] w).set_ (p := ⟨x, 1, none⟩) (.inl (by simp)) _⟩)
  clear h1 hws h3
  cases b <;> cases ok
  all_goals
    go_enter Tryz.func171, Tryz.ntmps171
    go_wp2_with fail
    first | (go_ret; exact ⟨rfl, HF.out _⟩) | exact ⟨rfl, HF.out _⟩ | (go_end0; exact ⟨rfl, HF.out _⟩)
end Go.Proofs.YtlpondbcnfaggaaGreatDoor.Po
