/-
  The document's own reading of addresses (hagioscoperef03), in plain words, and that it answers as package addr does. No condition.
-/
import Derived.Test.YtdofipjjodijcaaGreatDoorAdRound
namespace Go.Proofs.YtdofipjjodijcaaGreatDoor.Ad
open Go Go.Proofs.YtdofipjjodijcaaGreatDoor.Asc Go.Proofs.YtdofipjjodijcaaGreatDoor.Wd

/-- what stands between signs -/
def splitS (c : UInt8) : List UInt8 → List (List UInt8)
  | [] => [[]]
  | x :: l => if x = c then [] :: splitS c l else (x :: (splitS c l).headD []) :: (splitS c l).tail
theorem splitS_ne (c : UInt8) : ∀ l, splitS c l ≠ []
  | [] => by simp [splitS]
  | x :: l => by unfold splitS; split <;> simp
theorem splitS_free {c : UInt8} : ∀ {l : List UInt8}, c ∉ l → splitS c l = [l]
  | [], _ => rfl
  | x :: l, h => by
    unfold splitS
    rw [if_neg (fun e => h (by simp [e])), splitS_free (l := l) (fun hm => h (by simp [hm]))]
    rfl
theorem splitS_at {c : UInt8} : ∀ {a b : List UInt8}, c ∉ a → splitS c (a ++ c :: b) = a :: splitS c b
  | [], b, _ => by simp [splitS]
  | x :: a, b, h => by
    rw [List.cons_append, splitS, if_neg (fun e => h (by simp [e])), splitS_at (a := a) (fun hm => h (by simp [hm]))]
    rfl
theorem first_of {c : UInt8} : ∀ (l : List UInt8), c ∉ l ∨ ∃ a b, l = a ++ c :: b ∧ c ∉ a
  | [] => .inl (by simp)
  | x :: l => by
    by_cases hx : x = c
    · exact .inr ⟨[], l, by simp [hx], by simp⟩
    · rcases first_of (c := c) l with h | ⟨a, b, rfl, h⟩
      · exact .inl (by simp; exact ⟨fun e => hx e.symm, h⟩)
      · exact .inr ⟨x :: a, b, rfl, by simp; exact ⟨fun e => hx e.symm, h⟩⟩
/-- one byte more -/
theorem splitS_snoc (c : UInt8) : ∀ (l : List UInt8) (x : UInt8), splitS c (l ++ [x]) = if x = c then splitS c l ++ [[]] else (splitS c l).dropLast ++ [(splitS c l).getLastD [] ++ [x]]
  | [], x => by by_cases hx : x = c <;> simp [splitS, hx]
  | y :: l, x => by
    have ih := splitS_snoc c l x
    have hne := splitS_ne c l
    rw [List.cons_append, splitS, splitS, ih]
    cases hs : splitS c l with
    | nil => exact absurd hs hne
    | cons p r =>
      by_cases hy : y = c
      · rw [if_pos hy, if_pos hy]
        split
        · rfl
        · simp
      · rw [if_neg hy, if_neg hy]
        by_cases hx : x = c
        · rw [if_pos hx, if_pos hx]
          simp
        · rw [if_neg hx, if_neg hx]
          cases r with
          | nil => simp
          | cons q r => simp

def numsS : List (List UInt8) → Option (List UInt8)
  | [] => some []
  | p :: r => match numS p 255 with
    | none => none
    | some n => (numsS r).map (UInt8.ofNat n.toNat :: ·)
def dotR (l : List UInt8) : Option (List UInt8) := if (splitS 46 l).length = 4 then numsS (splitS 46 l) else none
theorem dotS_split : ∀ (k : Nat) (l : List UInt8), dotS (k + 1) l = if (splitS 46 l).length = k + 1 then numsS (splitS 46 l) else none
  | k, l => by
    rcases first_of (c := 46) l with h | ⟨a, b, rfl, h⟩
    · rw [splitS_free h, dotS, cut_free h]
      dsimp only
      cases hn : numS l 255 with
      | none => simp [numsS, hn]
      | some n =>
        cases k with
        | zero => simp [numsS, hn, dotS]
        | succ k => simp
    · rw [splitS_at h, dotS, cut_at h]
      dsimp only
      have hne := List.length_pos_iff.2 (splitS_ne 46 b)
      cases hn : numS a 255 with
      | none => simp [numsS, hn]
      | some n =>
        cases k with
        | zero =>
          have h1 : ¬ (splitS 46 b).length + 1 = 0 + 1 := by omega
          rw [List.length_cons, if_neg h1]
          rfl
        | succ k =>
          have ih := dotS_split k b
          simp only [numsS, hn, List.length_cons]
          rw [if_neg (by simp), ih]
          by_cases hl : (splitS 46 b).length = k + 1
          · rw [if_pos hl, if_pos (by omega)]
          · rw [if_neg hl, if_neg (by omega)]
            rfl
  termination_by k _ => k
theorem dotR_eq (l : List UInt8) : dotR l = dotS 4 l := (dotS_split 3 l).symm

def grpsR (last : Bool) : List (List UInt8) → Option (List UInt8)
  | [] => some []
  | p :: r => match hexS p with
    | some n => (grpsR last r).map ([UInt8.ofNat (n.toNat / 256), UInt8.ofNat (n.toNat % 256)] ++ ·)
    | none => match dotR p with
      | none => none
      | some d => if last = true ∧ r = [] then some d else none
def groupsR (l : List UInt8) (last : Bool) : Option (List UInt8) := if l = [] then some [] else grpsR last (splitS 58 l)
theorem sideGo_split (last : Bool) : ∀ (f : Nat) (acc l : List UInt8), l.length < f → sideGo last f acc l = (grpsR last (splitS 58 l)).bind fun b => if 16 < acc.length + b.length then none else some (acc ++ b)
  | 0, _, _, h => by omega
  | f + 1, acc, l, hf => by
    rcases first_of (c := 58) l with h | ⟨a, b, rfl, h⟩
    · unfold sideGo
      rw [splitS_free h, cut_free h]
      dsimp only
      unfold grpS
      simp only [grpsR]
      cases hx : hexS l with
      | some n => simp
      | none =>
        cases last with
        | false => cases dotR l <;> simp
        | true =>
          simp only [Bool.not_false, Bool.and_true, if_true, dotR_eq]
          cases dotS 4 l <;> simp
    · have hne := splitS_ne 58 b
      unfold sideGo
      rw [splitS_at h, cut_at h]
      dsimp only
      unfold grpS
      simp only [grpsR]
      cases hx : hexS a with
      | none => cases dotR a <;> simp [hne]
      | some n =>
        dsimp only
        simp only [List.length_append, List.length_cons] at hf
        by_cases h16 : 16 < acc.length + 2
        · rw [if_pos (by simpa using h16)]
          cases grpsR last (splitS 58 b) with
          | none => rfl
          | some x => simp; omega
        · rw [if_neg (by simpa using h16), if_pos trivial, sideGo_split last f _ b (by omega)]
          cases grpsR last (splitS 58 b) with
          | none => rfl
          | some x =>
            simp only [Option.map_some, Option.bind_some, List.length_append, List.length_cons, List.length_nil, List.append_assoc, Nat.add_assoc]
theorem sideS_split (l : List UInt8) (last : Bool) : sideS l last = (groupsR l last).bind fun b => if 16 < b.length then none else some b := by
  unfold sideS groupsR
  split
  · rfl
  · rw [sideGo_split last _ [] l (by omega)]
    simp

theorem grps_nil (last : Bool) : ∀ {L : List (List UInt8)}, [] ∈ L → grpsR last L = none
  | p :: r, h => by
    have h0 : hexS [] = none := rfl
    have h1 : dotR [] = none := rfl
    unfold grpsR
    rcases List.mem_cons.1 h with rfl | h
    · rw [h0, h1]
    · have ih := grps_nil last h
      have hr : r ≠ [] := by rintro rfl; cases h
      cases hexS p with
      | some n => simp [ih]
      | none => cases dotR p <;> simp [hr]
theorem split_two : ∀ (u v : List UInt8), [] ∈ (splitS 58 (u ++ 58 :: 58 :: v)).tail
  | [], v => by simp [splitS]
  | x :: u, v => by
    have ih := split_two u v
    rw [List.cons_append]
    unfold splitS
    split
    · exact List.mem_of_mem_tail ih
    · exact ih
/-- two colons at a place -/
def occ (l : List UInt8) (j : Nat) : Bool := l[j]? == some 58 && l[j + 1]? == some 58
theorem occ_is {l : List UInt8} {j : Nat} (h : occ l j = true) : l[j]? = some 58 ∧ l[j + 1]? = some 58 := by simpa [occ] using h
theorem occ_parts {l : List UInt8} {j : Nat} (h : occ l j = true) : l = l.take j ++ 58 :: 58 :: l.drop (j + 2) := by
  obtain ⟨h1, h2⟩ := occ_is h
  have e1 := (List.getElem?_eq_some_iff.1 h1)
  have e2 := (List.getElem?_eq_some_iff.1 h2)
  obtain ⟨l1, e1⟩ := e1
  obtain ⟨l2, e2⟩ := e2
  conv => lhs; rw [← List.take_append_drop j l]
  rw [List.drop_eq_getElem_cons l1, e1, List.drop_eq_getElem_cons l2, e2]
theorem occ_at (l : List UInt8) (j : Nat) : Lib.occAt l [58, 58] j = occ l j := by
  unfold Lib.occAt occ
  rw [show l[j]? = (l.drop j)[0]? by simp, show l[j + 1]? = (l.drop j)[1]? by simp]
  generalize l.drop j = d
  match d with
  | [] => rfl
  | [a] => simp [List.isPrefixOf]
  | a :: b :: r => rw [pre_two]; simp
theorem occ_end {l : List UInt8} {j : Nat} (hj : l.length ≤ j) : occ l j = false := by
  unfold occ
  rw [List.getElem?_eq_none hj]
  rfl
theorem cut_none {l : List UInt8} (h : ∀ j, occ l j = false) : Lib.cut l [58, 58] = (l, [], false) := by
  unfold Lib.cut
  rw [Lib.index_none (fun j hj => by rw [occ_at l j]; exact h j)]
  rfl
theorem cut_first {l : List UInt8} {j : Nat} (h : occ l j = true) (hn : ∀ i, i < j → occ l i = false) : Lib.cut l [58, 58] = (l.take j, l.drop (j + 2), true) := by
  have hj : j ≤ l.length := by
    rcases Nat.lt_or_ge j l.length with h1 | h1
    · omega
    · rw [occ_end h1] at h; cases h
  unfold Lib.cut
  rw [Lib.index_first hj (by rw [occ_at l j]; exact h) (fun i hi => by rw [occ_at l i]; exact hn i hi), if_pos (by omega)]
  simp
theorem dig_free {l : List UInt8} {a n : Int} (h : foldv 10 l a = some n) : (58 : UInt8) ∉ l := by
  induction l generalizing a with
  | nil => simp
  | cons c r ih =>
    unfold foldv at h
    cases hc : hexI (c.toNat : Int) with
    | none => rw [hc] at h; cases h
    | some d =>
      rw [hc] at h
      dsimp only at h
      split at h
      · intro hm
        rcases List.mem_cons.1 hm with e | e
        · rw [← e, show hexI (((58 : UInt8).toNat : Nat) : Int) = none by decide] at hc
          cases hc
        · exact ih h e
      · cases h
theorem num_free {l : List UInt8} {m n : Int} (h : numS l m = some n) : (58 : UInt8) ∉ l := by
  unfold numS at h
  split at h
  · cases h
  · split at h
    · cases h
    · rename_i k hk
      unfold digitsS at hk
      split at hk
      · cases hk
      · exact dig_free hk
theorem dotS_colon : ∀ (k : Nat) (l b : List UInt8), dotS (k + 1) l = some b → (58 : UInt8) ∉ l
  | k, l, b, h => by
    rcases first_of (c := 46) l with h1 | ⟨a, r, rfl, h1⟩
    · rw [dotS, cut_free h1] at h
      dsimp only at h
      cases hn : numS l 255 with
      | none => rw [hn] at h; cases h
      | some n => exact num_free hn
    · rw [dotS, cut_at h1] at h
      dsimp only at h
      cases hn : numS a 255 with
      | none => rw [hn] at h; cases h
      | some n =>
        rw [hn] at h
        dsimp only at h
        cases k with
        | zero => simp at h
        | succ k =>
          rw [if_neg (by simp)] at h
          cases hd : dotS (k + 1) r with
          | none => rw [hd] at h; cases h
          | some b' =>
            have ih := dotS_colon k r b' hd
            simp only [List.mem_append, List.mem_cons, not_or]
            exact ⟨num_free hn, by decide, ih⟩
  termination_by k _ _ => k

/-- the document's reading, case by case, is package addr's -/
theorem parse_dot {l d : List UInt8} (h : dotR l = some d) : parseS l = some (of4S d) := by
  rw [dotR_eq] at h
  have hf := dotS_colon 3 l d h
  unfold parseS
  rw [ib_free hf, if_neg (by omega), h]
  rfl
theorem parse_plain {l : List UInt8} (h : dotR l = none) (ho : ∀ j, occ l j = false) : parseS l = (groupsR l true).bind fun x => if x.length = 16 then some x else none := by
  by_cases hm : (58 : UInt8) ∈ l
  · unfold parseS
    rw [if_pos (ib_mem hm)]
    unfold groupsS
    rw [cut_none ho, sideS_split]
    dsimp only
    rw [if_neg (by simp)]
    cases groupsR l true with
    | none => rfl
    | some x =>
      simp only [Option.bind_some]
      by_cases h1 : 16 < x.length
      · rw [if_pos h1, if_neg (by omega)]
      · rw [if_neg h1]
        dsimp only
        by_cases h2 : x.length = 16
        · rw [if_neg (by omega), if_pos h2]
        · rw [if_pos (by omega), if_neg h2]
  · unfold parseS
    rw [ib_free hm, if_neg (by omega), ← dotR_eq, h]
    unfold groupsR
    split
    · rfl
    · rw [splitS_free hm]
      simp only [grpsR, h]
      cases hexS l with
      | none => rfl
      | some n => rfl
theorem parse_short {l : List UInt8} {j : Nat} (ho : occ l j = true) (hn : ∀ i, i ≠ j → occ l i = false) :
    parseS l = match groupsR (l.take j) false, groupsR (l.drop (j + 2)) true with
      | some x, some y => if 14 < x.length + y.length then none else some (x ++ List.replicate (16 - x.length - y.length) 0 ++ y)
      | _, _ => none := by
  have hm : (58 : UInt8) ∈ l := List.mem_of_getElem? (occ_is ho).1
  unfold parseS
  rw [if_pos (ib_mem hm)]
  unfold groupsS
  rw [cut_first ho (fun i hi => hn i (by omega))]
  dsimp only
  rw [if_pos rfl]
  unfold shortS
  rw [sideS_split, sideS_split]
  cases groupsR (l.take j) false with
  | none => rfl
  | some x =>
    simp only [Option.bind_some]
    by_cases hx : 16 < x.length
    · rw [if_pos hx]
      cases groupsR (l.drop (j + 2)) true with
      | none => rfl
      | some y => dsimp only; rw [if_pos (by omega)]
    · rw [if_neg hx]
      cases groupsR (l.drop (j + 2)) true with
      | none => rfl
      | some y =>
        simp only [Option.bind_some]
        by_cases hy : 16 < y.length
        · rw [if_pos hy, if_pos (by omega)]
        · rw [if_neg hy]
theorem parse_twice {l : List UInt8} {j k : Nat} (hj : occ l j = true) (hk : occ l k = true) (hjk : j < k) (hn : ∀ i, i < j → occ l i = false) : parseS l = none := by
  have hm : (58 : UInt8) ∈ l := List.mem_of_getElem? (occ_is hj).1
  have hs : sideS (l.drop (j + 2)) true = none := by
    rw [sideS_split]
    unfold groupsR
    have hne : l.drop (j + 2) ≠ [] := by
      intro e
      have h1 := (List.getElem?_eq_some_iff.1 (occ_is hk).2).1
      rw [List.drop_eq_nil_iff] at e
      omega
    rw [if_neg hne, grps_nil]
    · rfl
    · by_cases h1 : k = j + 1
      · have h2 := (occ_is hk).2
        rw [h1] at h2
        obtain ⟨h3, h4⟩ := List.getElem?_eq_some_iff.1 h2
        rw [List.drop_eq_getElem_cons h3, h4]
        simp [splitS]
      · have ho : occ (l.drop (j + 2)) (k - (j + 2)) = true := by
          unfold occ
          rw [List.getElem?_drop, List.getElem?_drop, show j + 2 + (k - (j + 2)) = k by omega, show j + 2 + (k - (j + 2) + 1) = k + 1 by omega]
          exact hk
        rw [occ_parts ho]
        exact List.mem_of_mem_tail (split_two _ _)
  unfold parseS
  rw [if_pos (ib_mem hm)]
  unfold groupsS
  rw [cut_first hj hn]
  dsimp only
  rw [if_pos rfl]
  unfold shortS
  rw [hs]
  cases sideS (l.take j) false <;> rfl
end Go.Proofs.YtdofipjjodijcaaGreatDoor.Ad
