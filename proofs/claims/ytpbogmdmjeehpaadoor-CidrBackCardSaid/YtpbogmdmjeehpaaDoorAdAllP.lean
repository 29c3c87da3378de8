/-
  All of a set: what was collected from the map, and rows of Cidrs in memory. Plain lemmas.
-/
import Derived.Test.YtpbogmdmjeehpaaDoorAdOrd
import Derived.Test.YtpbogmdmjeehpaaDoorAdKey
import Derived.Sort.KeysCollected
import Derived.Shelf.SlSortCmp.NoneTotal
import Derived.Maps.RangeWalk
set_option linter.unusedSimpArgs false
namespace Go.Proofs.YtpbogmdmjeehpaaDoor.Ad
open Go Go.RowKit Go.Lib Go.Shelf Go.Sort Go.Maps Go.Proofs.YtpbogmdmjeehpaaDoor.Wd

abbrev e16 : C16 → List Value := fun c => cL c.1
def vals (l : List C16) : List C := l.map Subtype.val
/-- no Cidr twice; a Cidr is on the list just where the set has it and it is no longer to come -/
structure Coll (L : List C) (left : Lit → Bool) (ss : List C16) : Prop where
  nodup : (vals ss).Nodup
  mem : ∀ c, c ∈ vals ss ↔ c ∈ L ∧ left (kC c) = false

theorem sameKC (c d : C) : (kC c).sameKey (kC d) = true ↔ kC c = kC d := by
  unfold kC
  by_cases h : keyBytes (lits c) = keyBytes (lits d)
  · simp [h, Lit.sameKey]
  · simp [h, Lit.sameKey]
theorem Coll.start {w : World} {s b n : Nat} {D : DataW Unit} {L : List C} (h : SetIs w s b n D L) : Coll L (Maps.has D) [] :=
  ⟨List.nodup_nil, fun c => by
    constructor
    · intro hc; cases hc
    · rintro ⟨hc, hl⟩
      have := (h.has (kC c)).2 ⟨c, hc, rfl⟩
      rw [hl] at this; cases this⟩
theorem Coll.key {w : World} {s b n : Nat} {D : DataW Unit} {L : List C} (hS : SetIs w s b n D L) {key : Value} {kl : Lit} {y : DataW Unit} (hk : keyOf Tryd.prog 25 key = some kl) (hat : ∀ zd, D.atKey kl zd = y) :
    ∃ c ∈ L, kl = kC c ∧ key = .agg c.cells := by
  obtain ⟨c, hc, he⟩ := (hS.has kl).1 (has_true_of_atKey hat)
  exact ⟨c, hc, he.symm, keyedC.inj hk (he ▸ keyC c (hS.ok c hc))⟩
theorem Coll.step {L : List C} {left : Lit → Bool} {ss : List C16} (h : Coll L left ss) (hok : ∀ c ∈ L, OkC c) (c : C16) (hc : c.1 ∈ L) (hl : left (kC c.1) = true) : Coll L (fun z => left z && !z.sameKey (kC c.1)) (ss ++ [c]) := by
  have hnew : c.1 ∉ vals ss := fun hx => by have := ((h.mem c.1).1 hx).2; rw [hl] at this; cases this
  refine ⟨?_, fun d => ?_⟩
  · unfold vals
    rw [List.map_append]
    exact List.nodup_append.2 ⟨h.nodup, by simp, fun a ha b hb => by simp at hb; subst hb; exact fun e => hnew (e ▸ ha)⟩
  · have hd : d ∈ vals (ss ++ [c]) ↔ d ∈ vals ss ∨ d = c.1 := by unfold vals; rw [List.map_append, List.mem_append]; simp
    rw [hd, h.mem d]
    show _ ↔ d ∈ L ∧ (left (kC d) && !(kC d).sameKey (kC c.1)) = false
    by_cases e : d = c.1
    · subst e
      have := (sameKC c.1 c.1).2 rfl
      simp [hc, this]
    · constructor
      · rintro (⟨h1, h2⟩ | h1)
        · exact ⟨h1, by rw [h2]; rfl⟩
        · exact absurd h1 e
      · rintro ⟨h1, h2⟩
        have hne : kC d ≠ kC c.1 := fun he => e (kC_inj (hok d h1) (hok _ hc) he)
        have hs : (kC d).sameKey (kC c.1) = false := Bool.eq_false_iff.2 fun hh => hne ((sameKC _ _).1 hh)
        rw [hs] at h2
        exact Or.inl ⟨h1, by simpa using h2⟩
theorem Coll.perm {L : List C} {left : Lit → Bool} {ss : List C16} (h : Coll L left ss) (hn : L.Nodup) (hl : ∀ kl, left kl = false) : (vals ss).Perm L :=
  (List.perm_ext_iff_of_nodup h.nodup hn).2 fun c => by rw [h.mem, hl]; simp

/-- the cells of a row of Cidrs -/
def flat (l : List C16) : List Value := l.flatMap e16
theorem e16_len (c : C16) : (e16 c).length = 17 := cL_len c.1 c.2
theorem e16_one (c : C16) : ∀ v ∈ e16 c, v.oneCell' = true := by
  intro v hv
  rcases List.mem_append.1 hv with h | h
  · exact cellsOf_one _ v h
  · simp at h; subst h; rfl
theorem flat_append (l l' : List C16) : flat (l ++ l') = flat l ++ flat l' := by simp [flat]
theorem flat_one (c : C16) : flat [c] = e16 c := by simp [flat]
theorem flat_len : ∀ l : List C16, (flat l).length = l.length * 17
  | [] => rfl
  | c :: l => by
    have := flat_len l
    rw [show c :: l = [c] ++ l from rfl, flat_append, flat_one, List.length_append, e16_len, this, List.length_append, Nat.add_mul]
    rfl
theorem flat_get : ∀ (l : List C16) (i : Nat) (c : C16) (j : Nat), l[i]? = some c → j < 17 → (flat l)[i * 17 + j]? = (e16 c)[j]?
  | [], _, _, _, h, _ => by simp at h
  | x :: l, 0, c, j, h, hj => by
    simp at h; subst h
    rw [show x :: l = [x] ++ l from rfl, flat_append, flat_one, Nat.zero_mul, Nat.zero_add, List.getElem?_append_left (by rw [e16_len]; exact hj)]
  | x :: l, i + 1, c, j, h, hj => by
    rw [show x :: l = [x] ++ l from rfl, flat_append, flat_one, List.getElem?_append_right (by rw [e16_len]; omega), e16_len, show (i + 1) * 17 + j - 17 = i * 17 + j by omega]
    exact flat_get l i c j (by simpa using h) hj
theorem flatK_get (l : List C16) (t : Nat) (h : t < l.length * 17) : (flat l)[t]? = some ((flatK e16 17 l.toArray)[t]!) := by
  rw [get_flatK _ _ _ _ (by simpa using h)]
  have hi : t / 17 < l.length := by omega
  have e := flat_get l (t / 17) l[t / 17] (t % 17) (List.getElem?_eq_getElem hi) (by omega)
  rw [show t / 17 * 17 + t % 17 = t by omega] at e
  have hj : t % 17 < (e16 l[t / 17]).length := by rw [e16_len]; omega
  rw [e, List.getElem?_eq_getElem hj]
  congr 1
  rw [getElem!_pos l.toArray (t / 17) (by simpa using hi)]
  rw [List.getElem_toArray, getElem!_pos (e16 l[t / 17]) (t % 17) hj]
/-- a row of Cidrs, as it lies in block g -/
def RowC (w : World) (g : Nat) (l : List C16) : Prop := ∀ i c, l[i]? = some c → w.rangeAt g (i * 17) (e16 c)
theorem RowC.of_holds {w : World} {g : Nat} {l : List C16} (h : HoldsK e16 17 w g 0 l.toArray) : RowC w g l := by
  intro i c hi j v hj
  have hil : i < l.length := (List.getElem?_eq_some_iff.1 hi).1
  have hjl : j < 17 := by have := (List.getElem?_eq_some_iff.1 hj).1; rwa [e16_len] at this
  have h1 := (h (i * 17 + j) (by simp; omega)).1
  rw [Nat.zero_add] at h1
  rw [h1]
  show some ((flatK e16 17 l.toArray)[i * 17 + j]!) = _
  rw [← flatK_get l _ (by omega), flat_get l i c j hi hjl, hj]
theorem holdsK_of_block {w : World} {g : Nat} {cur : Array Value} {e : TypeId} {l : List C16} (hb : w.heap[g]? = some (.cells cur e (0, 0))) (ht : cur.toList.take (l.length * 17) = flat l) : HoldsK e16 17 w g 0 l.toArray := by
  intro t h
  have h' : t < l.length * 17 := by simpa using h
  refine ⟨?_, by simp [World.frozen?, hb]⟩
  have h1 : (cur.toList.take (l.length * 17))[t]? = (flat l)[t]? := by rw [ht]
  rw [List.getElem?_take_of_lt h', flatK_get l t h'] at h1
  rw [Nat.zero_add, cell_of_row w g t cur e (0, 0) hb, ← Array.getElem?_toList, h1]
  rfl
theorem grownBy_sortedC {w : World} {g n : Nat} {os : Array Obj} (d : Array C16) : w.grownBy (sortWorldK e16 17 w g 0 n d os) (some g) := by
  refine ⟨rfl, rfl, rfl, by simp [sortWorldK, putRowK, putRow, mapBlock, Sort.ahead, grow], fun k hk hne => ?_⟩
  unfold sortWorldK
  rw [heap_grow_old _ _ (by simpa [putRowK] using hk)]
  have : g ≠ k := fun e => hne (by rw [e])
  simp [putRowK, putRow, mapBlock, Sort.ahead, Array.getElem?_modify, this]
theorem tot16 : ∀ x y : C16, Go.Proofs.ltOf cf16 x y = false → Go.Proofs.ltOf cf16 y x = false → x = y := by
  intro x y h1 h2
  rw [lt16_no] at h1 h2
  unfold Ahead at h1 h2
  have ha : x.1.a = y.1.a := numB_inj _ _ (by rw [x.2, y.2]) (by omega)
  have hn : x.1.n = y.1.n := by omega
  apply Subtype.ext
  rcases x with ⟨⟨xa, xn⟩, hx⟩
  rcases y with ⟨⟨ya, yn⟩, hy⟩
  simp only at ha hn
  simp only [ha, hn]
def InOrder (l : List C16) : Prop := l.Pairwise fun x y => Go.Proofs.ltOf cf16 y x = false
theorem inOrder_sort (l : List C16) : InOrder (l.mergeSort fun x y => !(Go.Proofs.ltOf cf16) y x) := by
  have tr : ∀ a b c : C16, (!(Go.Proofs.ltOf cf16) b a) = true → (!(Go.Proofs.ltOf cf16) c b) = true → (!(Go.Proofs.ltOf cf16) c a) = true := fun a b c h1 h2 => by
    simp only [Bool.not_eq_true'] at *
    exact swo16.ntrans _ _ _ h2 h1
  have to : ∀ a b : C16, ((!(Go.Proofs.ltOf cf16) b a) || (!(Go.Proofs.ltOf cf16) a b)) = true := fun a b => by
    cases h : Go.Proofs.ltOf cf16 b a
    · rfl
    · cases h2 : Go.Proofs.ltOf cf16 a b
      · rfl
      · have := swo16.trans _ _ _ h h2
        rw [swo16.irrefl] at this; cases this
  refine (List.pairwise_mergeSort tr to l).imp ?_
  intro a b h
  simpa using h
def AllPost (L : List C) (w : World) (e : Ending) (w' : World) : Prop :=
  ∃ (g cap : Nat) (M : List C16), e = .returned (.slice (some ⟨g, 0, none⟩) M.length cap) ∧ (vals M).Perm L ∧ InOrder M ∧ RowC w' g M ∧ w.heap.size ≤ g ∧ g < w'.heap.size ∧ Below w.heap.size w w'
end Go.Proofs.YtpbogmdmjeehpaaDoor.Ad
