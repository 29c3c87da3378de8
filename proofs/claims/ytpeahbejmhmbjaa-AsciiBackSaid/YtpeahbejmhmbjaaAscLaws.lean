/-
  Plain facts for the laws of package ascii: strings one behind the other, what is trimmed. No condition.
-/
import Derived.Test.YtpeahbejmhmbjaaAscSmall
namespace Go.Proofs.Ytpeahbejmhmbjaa.Asc
open Go.RowKit Go.Proofs.Ytpeahbejmhmbjaa.Wd

theorem ne_list (s : ByteArray) (h : 0 < s.size) : s.toList.isEmpty = false ∧ ¬ s.toList = [] := by
  have h2 : ¬ s.toList = [] := by
    rw [Lib.toList_data]
    intro e
    rw [← bs_length, bs, e] at h
    exact absurd h (by simp)
  exact ⟨by simpa using h2, h2⟩
theorem bs_add (a b : ByteArray) : bs (a ++ b) = bs a ++ bs b := by simp [bs, ByteArray.data_append]
theorem size_add (a b : ByteArray) : (a ++ b).size = a.size + b.size := by rw [← bs_length, bs_add, List.length_append, bs_length, bs_length]
theorem empty_of (a : ByteArray) (h : a.size = 0) : a = ⟨#[]⟩ := bs_inj (bs_nil a h)
theorem toList_same {a b : ByteArray} (h : a = b) : (a.toList == b.toList) = true := by rw [h]; simp

theorem all_add (p : Int → Bool) (a b : ByteArray) (ha : 0 < a.size) (hb : 0 < b.size) : allS p (bs (a ++ b)) = (allS p (bs a) && allS p (bs b)) := by
  have e1 : (bs a).isEmpty = false := by rw [bs, ← Lib.toList_data]; exact (ne_list a ha).1
  have e2 : (bs b).isEmpty = false := by rw [bs, ← Lib.toList_data]; exact (ne_list b hb).1
  have e3 : (bs a ++ bs b).isEmpty = false := by
    cases h : bs a with
    | nil => rw [h] at e1; cases e1
    | cons x l => rfl
  rw [bs_add, allS, allS, allS, e1, e2, e3, List.all_append]
  rfl
theorem tok_vis (l : List UInt8) (h : allS tokI l = true) : allS visI l = true := by
  rw [allS, Bool.and_eq_true] at h ⊢
  refine ⟨h.1, List.all_eq_true.2 fun c hc => ?_⟩
  have := List.all_eq_true.1 h.2 c hc
  simp only [tokI, ltrI, digI, sgnI, Bool.or_eq_true, decide_eq_true_eq] at this
  simp only [visI, decide_eq_true_eq]
  omega

theorem dw_head (p : UInt8 → Bool) : ∀ (l : List UInt8) x r, l.dropWhile p = x :: r → p x = false
  | [], x, r, h => by cases h
  | c :: l, x, r, h => by
    cases hc : p c
    · rw [List.dropWhile_cons_of_neg (by rw [hc]; simp)] at h
      injection h with h1 h2
      rw [← h1]; exact hc
    · rw [List.dropWhile_cons_of_pos hc] at h
      exact dw_head p l x r h
theorem dw_all (p : UInt8 → Bool) (x y : List UInt8) (hx : x.all p = true) : (x ++ y).dropWhile p = y.dropWhile p :=
  List.dropWhile_append_of_pos (fun z hz => List.all_eq_true.1 hx z hz)
theorem dw_nil (p : UInt8 → Bool) (x : List UInt8) (hx : x.all p = true) : x.dropWhile p = [] := by
  have h := dw_all p x [] hx
  rw [List.append_nil] at h
  exact h
theorem trimR_pre (l : List UInt8) : ∃ z, l = trimR l ++ z := by
  refine ⟨(l.reverse.takeWhile blkB).reverse, ?_⟩
  rw [trimR, ← List.reverse_append, List.takeWhile_append_dropWhile, List.reverse_reverse]
theorem trimR_add (x y : List UInt8) (hy : y.all blkB = true) : trimR (x ++ y) = trimR x := by
  rw [trimR, List.reverse_append, dw_all _ _ _ (by rw [List.all_reverse]; exact hy), trimR]
theorem trim_first (l : List UInt8) (x : UInt8) (r : List UInt8) (h : trimL l = x :: r) : blkB x = false := by
  obtain ⟨z, hz⟩ := trimR_pre (l.dropWhile blkB)
  rw [trimL] at h
  rw [h] at hz
  exact dw_head _ l x (r ++ z) hz
theorem trim_last (l : List UInt8) (x : UInt8) (r : List UInt8) (h : trimL l = r ++ [x]) : blkB x = false := by
  rw [trimL, trimR] at h
  have h2 := congrArg List.reverse h
  rw [List.reverse_reverse, List.reverse_append] at h2
  exact dw_head _ _ x r.reverse h2
theorem trim_id (X : List UInt8) (hf : ∀ x r, X = x :: r → blkB x = false) (hl : ∀ x r, X = r ++ [x] → blkB x = false) : trimL X = X := by
  rcases List.eq_nil_or_concat X with rfl | ⟨r, x, e⟩
  · rfl
  · rw [List.concat_eq_append] at e
    have e1 : X.dropWhile blkB = X := by
      cases X with
      | nil => rfl
      | cons c l => rw [List.dropWhile_cons_of_neg (by rw [hf c l rfl]; simp)]
    rw [trimL, e1, trimR, e, List.reverse_append]
    show (List.dropWhile blkB (x :: r.reverse)).reverse = _
    rw [List.dropWhile_cons_of_neg (by rw [hl x r e]; simp)]
    simp
theorem trim_twice (l : List UInt8) : trimL (trimL l) = trimL l := trim_id _ (fun x r h => trim_first l x r h) (fun x r h => trim_last l x r h)
theorem trim_around (b l : List UInt8) (hb : b.all blkB = true) : trimL (b ++ l ++ b) = trimL l := by
  rw [trimL, List.append_assoc, dw_all _ _ _ hb, List.dropWhile_append, trimL]
  split
  · rename_i h
    rw [dw_nil _ _ hb]
    rw [List.isEmpty_iff] at h
    rw [h]
  · exact trimR_add _ _ hb
theorem trimS_twice (s : ByteArray) : trimS (trimS s) = trimS s := by
  apply bs_inj
  show trimL (trimL (bs s)) = trimL (bs s)
  exact trim_twice _
theorem trimS_around (b s : ByteArray) (hb : (bs b).all blkB = true) : trimS (b ++ s ++ b) = trimS s := by
  apply bs_inj
  show trimL (bs (b ++ s ++ b)) = trimL (bs s)
  rw [bs_add, bs_add, trim_around _ _ hb]
theorem no_blank {c : UInt8} (h : blkB c = false) : ((c.toNat : Int) == 32) = false ∧ ((c.toNat : Int) == 9) = false := by
  simp only [blkB, blkI, decide_eq_false_iff_not, not_or] at h
  exact ⟨by simp; omega, by simp; omega⟩
theorem trimS_first (s : ByteArray) (h : 0 < (trimS s).size) : blkB ((trimS s)[0]'h) = false := by
  have e : bs (trimS s) = trimL (bs s) := rfl
  have h2 := bs_drop (trimS s) 0 h
  rw [List.drop_zero, e] at h2
  exact trim_first _ _ _ h2
theorem trimS_last (s : ByteArray) (k : Nat) (h : (trimS s).size = k + 1) : blkB ((trimS s)[k]'(by omega)) = false := by
  have e : bs (trimS s) = trimL (bs s) := rfl
  have h2 := bs_take (trimS s) k (by omega)
  rw [List.take_of_length_le (by rw [bs_length]; omega), e] at h2
  exact trim_last _ _ _ h2
theorem trimS_size (s : ByteArray) : (trimS s).size ≤ s.size := by
  rw [← bs_length, ← bs_length s]
  show (trimL (bs s)).length ≤ _
  obtain ⟨z, hz⟩ := trimR_pre ((bs s).dropWhile blkB)
  have h1 := congrArg List.length hz
  rw [List.length_append] at h1
  have h2 := (List.dropWhile_suffix blkB (l := bs s)).length_le
  rw [trimL]
  omega
end Go.Proofs.Ytpeahbejmhmbjaa.Asc
