/-
  A queue's bytes in their places: plain facts on lists, no condition.
-/
import Derived.Test.YtpdihniimnoeoaaRgMem
namespace Go.Proofs.Ytpdihniimnoeoaa.Rg
open Go.RowKit Go.Proofs.Ytpdihniimnoeoaa.Wd

def wrapAt (R i : Nat) : Nat := if i < R then i else i - R
theorem wrapAt_is (R i : Nat) : (i < R ∧ wrapAt R i = i) ∨ (R ≤ i ∧ wrapAt R i = i - R) := by
  unfold wrapAt
  split
  · exact .inl ⟨‹_›, rfl⟩
  · exact .inr ⟨by omega, rfl⟩
/-- the place n behind the first one -/
def placeN (R f n : Nat) : Nat := if R = 0 then 0 else (f + n) % R
/-- the bytes bs lie in the places ps, from place f on, round and round -/
structure Laid (ps : List UInt8) (f : Nat) (bs : List UInt8) : Prop where
  len : bs.length ≤ ps.length
  first : f < ps.length ∨ (ps.length = 0 ∧ f = 0)
  at_ : ∀ i, i < bs.length → ps[wrapAt ps.length (f + i)]? = bs[i]?

theorem placeN_wrap {R f n : Nat} (hf : f < R) (hn : n ≤ R) : placeN R f n = wrapAt R (f + n) := by
  unfold placeN wrapAt
  rw [if_neg (by omega)]
  split
  · exact Nat.mod_eq_of_lt ‹_›
  · rw [Nat.mod_eq_sub_mod (by omega), Nat.mod_eq_of_lt (by omega)]
theorem placeN_none {R f n : Nat} (hR : R = 0) : placeN R f n = 0 := by rw [placeN, if_pos hR]
theorem placeN_lt {R f n : Nat} (hR : 0 < R) : placeN R f n < R := by
  rw [placeN, if_neg (by omega)]
  exact Nat.mod_lt _ hR
theorem placeN_le (R f n : Nat) : placeN R f n ≤ R := by
  rcases Nat.eq_zero_or_pos R with h | h
  · rw [placeN_none h]; omega
  · exact Nat.le_of_lt (placeN_lt h)

theorem Laid.nil (R : Nat) : Laid (List.replicate R 0) 0 [] :=
  ⟨Nat.zero_le _, by rw [List.length_replicate]; omega, fun i hi => absurd hi (by simp)⟩

/-- how many of b there is room for -/
def roomN (R c n : Nat) : Nat := min n (R - c)
def pushS (ps : List UInt8) (f c : Nat) (b : List UInt8) : List UInt8 :=
  splice (splice ps (placeN ps.length f c) ((b.take (roomN ps.length c b.length)).take (ps.length - placeN ps.length f c))) 0
    (((b.take (roomN ps.length c b.length)).drop (min (roomN ps.length c b.length) (ps.length - placeN ps.length f c))).take ps.length)
theorem pushS_len {ps : List UInt8} {f : Nat} {bs : List UInt8} (b : List UInt8) (_h : Laid ps f bs) : (pushS ps f bs.length b).length = ps.length := by
  have := placeN_le ps.length f bs.length
  unfold pushS
  rw [length_splice, length_splice]
  · simp only [List.length_take]; omega
  · rw [length_splice]
    · simp only [List.length_take, List.length_drop]; omega
    · simp only [List.length_take]; omega
theorem laid_push {ps : List UInt8} {f : Nat} {bs : List UInt8} (b : List UInt8) (h : Laid ps f bs) : Laid (pushS ps f bs.length b) f (bs ++ b.take (roomN ps.length bs.length b.length)) := by
  have hL := pushS_len b h
  have hle := placeN_le ps.length f bs.length
  have hbl := h.len
  have hn : roomN ps.length bs.length b.length ≤ ps.length - bs.length := Nat.min_le_right _ _
  have hnb : roomN ps.length bs.length b.length ≤ b.length := Nat.min_le_left _ _
  refine ⟨?_, by rw [hL]; exact h.first, fun i hi => ?_⟩
  · rw [hL, List.length_append, List.length_take]; omega
  rw [hL]
  rw [List.length_append, List.length_take] at hi
  have hR : 0 < ps.length := by omega
  have hf : f < ps.length := by have := h.first; omega
  have hpl := placeN_wrap (n := bs.length) hf (by omega)
  have hat := h.at_ i
  unfold pushS
  generalize roomN ps.length bs.length b.length = n at *
  generalize hT : placeN ps.length f bs.length = T at *
  have hTR : T < ps.length := by rw [← hT]; exact placeN_lt hR
  have hb1 : ((b.take n).take (ps.length - T)).length = min n (ps.length - T) := by simp only [List.length_take]; omega
  have hb2 : (((b.take n).drop (min n (ps.length - T))).take ps.length).length = n - min n (ps.length - T) := by simp only [List.length_take, List.length_drop]; omega
  rw [splice_get _ _ _ (by rw [length_splice _ _ _ (by omega)]; omega), splice_get _ _ _ (by omega), hb1, hb2]
  have hW := wrapAt_is ps.length (f + i)
  have hT' := wrapAt_is ps.length (f + bs.length)
  generalize wrapAt ps.length (f + i) = W at *
  rw [← hpl] at hT'
  by_cases hi0 : i < bs.length
  · rw [List.getElem?_append_left hi0, ← hat hi0]
    rw [if_neg (by omega), if_neg (by omega)]
  · rw [List.getElem?_append_right (by omega), List.getElem?_take (l := b), if_pos (show i - bs.length < n by omega)]
    by_cases hw : T + (i - bs.length) < ps.length
    · rw [if_neg (by omega), if_pos (by omega), List.getElem?_take, if_pos (by omega), List.getElem?_take, if_pos (by omega)]
      congr 1
      omega
    · rw [if_pos (by omega), List.getElem?_take, if_pos (by omega), List.getElem?_drop, List.getElem?_take, if_pos (by omega)]
      congr 1
      omega

def seeS (ps : List UInt8) (f k : Nat) : List UInt8 :=
  splice (splice (List.replicate k 0) 0 ((ps.drop f).take k)) (min (ps.length - f) k) (ps.take (k - min (ps.length - f) k))
theorem see_eq {ps : List UInt8} {f : Nat} {bs : List UInt8} (h : Laid ps f bs) {k : Nat} (hk : k ≤ bs.length) : seeS ps f k = bs.take k := by
  have hbl := h.len
  have hfr := h.first
  have hz : (List.replicate k (0 : UInt8)).length = k := List.length_replicate
  have hb1 : ((ps.drop f).take k).length = min (ps.length - f) k := by simp only [List.length_take, List.length_drop]; omega
  have hb2 : (ps.take (k - min (ps.length - f) k)).length = k - min (ps.length - f) k := by simp only [List.length_take]; omega
  unfold seeS
  apply List.ext_getElem?
  intro i
  rw [splice_get _ _ _ (by rw [length_splice _ _ _ (by omega)]; omega), splice_get _ _ _ (by omega), hb1, hb2, List.getElem?_take (l := bs)]
  by_cases hi : i < k
  · rw [if_pos hi, ← h.at_ i (by omega)]
    have hW := wrapAt_is ps.length (f + i)
    generalize wrapAt ps.length (f + i) = W at *
    by_cases h1 : i < ps.length - f
    · rw [if_neg (by omega), if_pos (by omega), List.getElem?_take, if_pos (by omega), List.getElem?_drop, Nat.sub_zero]
      congr 1
      omega
    · rw [if_pos (by omega), List.getElem?_take, if_pos (by omega)]
      congr 1
      omega
  · rw [if_neg hi, if_neg (by omega), if_neg (by omega), List.getElem?_eq_none (by omega)]
theorem laid_drop {ps : List UInt8} {f : Nat} {bs : List UInt8} (h : Laid ps f bs) {k : Nat} (hk : k ≤ bs.length) : Laid ps (placeN ps.length f k) (bs.drop k) := by
  have hbl := h.len
  refine ⟨by rw [List.length_drop]; omega, ?_, fun i hi => ?_⟩
  · rcases Nat.eq_zero_or_pos ps.length with h0 | h0
    · exact .inr ⟨h0, placeN_none h0⟩
    · exact .inl (placeN_lt h0)
  · rw [List.length_drop] at hi
    have hf : f < ps.length := by have := h.first; omega
    rw [List.getElem?_drop, ← h.at_ (k + i) (by omega), placeN_wrap hf (by omega)]
    congr 1
    have h1 := wrapAt_is ps.length (f + k)
    have h2 := wrapAt_is ps.length (wrapAt ps.length (f + k) + i)
    have h3 := wrapAt_is ps.length (f + (k + i))
    omega
theorem room_add (R c n : Nat) (h : c ≤ R) : c + roomN R c n ≤ R := by unfold roomN; omega
end Go.Proofs.Ytpdihniimnoeoaa.Rg
