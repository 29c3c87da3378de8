/-
  Contracts of package ascii's functions of one rune: isLetter, isDigit, isSign, isToken, isVisible, isBlank, digit.
-/
import Derived.Test.YtgbhnjkigjecmaaGreatDoorQ02
import Derived.Lib.Strings
import Derived.Laws.IdiomStrings
namespace Go.Proofs.YtgbhnjkigjecmaaGreatDoor.Asc
open Go.RowKit Go.Proofs.YtgbhnjkigjecmaaGreatDoor.Wd

set_option maxHeartbeats 400000 in
theorem isLetter_any (r : Int) (w : World) : Calls Tryz.prog 136 #[.int .i32 r] w fun e w' => e = .returned (.bool (ltrI r)) ∧ w = w' := by
  by_cases a1 : 97 ≤ r <;> by_cases a2 : r ≤ 122 <;> by_cases a3 : 65 ≤ r <;> by_cases a4 : r ≤ 90
  all_goals first
    | (exfalso; omega)
    | (go_enter Tryz.func136, Tryz.ntmps136
       go_wp2
       go_ret
       exact ⟨ret_b (by simp [ltrI] <;> omega), rfl⟩)

theorem isVisible_any (r : Int) (w : World) : Calls Tryz.prog 96 #[.int .i32 r] w fun e w' => e = .returned (.bool (visI r)) ∧ w = w' := by
  by_cases a1 : 33 ≤ r <;> by_cases a2 : r ≤ 126
  all_goals first
    | (exfalso; omega)
    | (go_enter Tryz.func96, Tryz.ntmps96
       go_wp2
       go_ret
       exact ⟨ret_b (by simp [visI] <;> omega), rfl⟩)

theorem isBlank_any (r : Int) (w : World) : Calls Tryz.prog 98 #[.int .i32 r] w fun e w' => e = .returned (.bool (blkI r)) ∧ w = w' := by
  by_cases a1 : r = 32
  · subst a1
    go_enter Tryz.func98, Tryz.ntmps98
    go_wp2
    go_ret
    exact ⟨rfl, rfl⟩
  · by_cases a2 : r = 9
    · subst a2
      go_enter Tryz.func98, Tryz.ntmps98
      go_wp2
      go_ret
      exact ⟨rfl, rfl⟩
    · have b1 : (r == 32) = false := by simpa using a1
      have b2 : (r == 9) = false := by simpa using a2
      go_enter Tryz.func98, Tryz.ntmps98
      go_wp2
      go_ret
      exact ⟨ret_b (by simp [blkI]; omega), rfl⟩

set_option maxHeartbeats 1000000 in
theorem isSign_any (r : Int) (w : World) : Calls Tryz.prog 138 #[.int .i32 r] w fun e w' => e = .returned (.bool (sgnI r)) ∧ w = w' := by
  by_cases a : r = 33 ∨ r = 35 ∨ r = 36 ∨ r = 37 ∨ r = 38 ∨ r = 39 ∨ r = 42 ∨ r = 43 ∨ r = 45 ∨ r = 46 ∨ r = 94 ∨ r = 95 ∨ r = 96 ∨ r = 124 ∨ r = 126
  · rcases a with rfl | rfl | rfl | rfl | rfl | rfl | rfl | rfl | rfl | rfl | rfl | rfl | rfl | rfl | rfl
    all_goals
      go_enter Tryz.func138, Tryz.ntmps138
      go_wp2
      go_ret
      exact ⟨rfl, rfl⟩
  · have e : sgnI r = false := by simpa [sgnI] using a
    have no : ∀ k : Int, (r = k → False) → (r == k) = false := fun k h => by simpa using h
    have b1 := no 33 (by omega)
    have b2 := no 35 (by omega)
    have b3 := no 36 (by omega)
    have b4 := no 37 (by omega)
    have b5 := no 38 (by omega)
    have b6 := no 39 (by omega)
    have b7 := no 42 (by omega)
    have b8 := no 43 (by omega)
    have b9 := no 45 (by omega)
    have b10 := no 46 (by omega)
    have b11 := no 94 (by omega)
    have b12 := no 95 (by omega)
    have b13 := no 96 (by omega)
    have b14 := no 124 (by omega)
    have b15 := no 126 (by omega)
    have E := Lib.hid e
    clear e no a
    go_enter Tryz.func138, Tryz.ntmps138
    go_wp2
    go_ret
    exact ⟨ret_b E.out.symm, rfl⟩

theorem isToken_any (r : Int) (w : World) : Calls Tryz.prog 95 #[.int .i32 r] w fun e w' => e = .returned (.bool (tokI r)) ∧ w = w' := by
  have H : Hid (tokI r = (ltrI r || digI r || sgnI r)) := Lib.hid rfl
  cases h1 : ltrI r <;> cases h2 : digI r <;> cases h3 : sgnI r
  all_goals
    have H1 := Lib.hid h1
    have H2 := Lib.hid h2
    have H3 := Lib.hid h3
    clear h1 h2 h3
    go_enter Tryz.func95, Tryz.ntmps95
    go_wp2_with (first
      | (go_at_call 136; refine (isLetter_any _ _).mono ?_; rintro e w' ⟨rfl, rfl⟩; rw [H1.out])
      | (go_at_call 137; refine (isDigit_any _ _).mono ?_; rintro e w' ⟨rfl, rfl⟩; rw [H2.out])
      | (go_at_call 138; refine (isSign_any _ _).mono ?_; rintro e w' ⟨rfl, rfl⟩; rw [H3.out]))
    go_ret
    exact ⟨ret_b (by rw [H.out, H1.out, H2.out, H3.out]; rfl), rfl⟩

end Go.Proofs.YtgbhnjkigjecmaaGreatDoor.Asc

/-
  Contracts of package ascii's all, Token and Visible.
-/
namespace Go.Proofs.YtgbhnjkigjecmaaGreatDoor.Asc
open Go.RowKit Go.Proofs.YtgbhnjkigjecmaaGreatDoor.Wd

theorem allS_nil (p : Int → Bool) (s : ByteArray) (pos : Nat) (h : ¬ pos < s.size) (hle : pos ≤ s.size) (ht : ((bs s).take pos).all (fun c => p (c.toNat : Int)) = true) :
    (!s.toList.isEmpty) = allS p (bs s) := by
  have e : (bs s).take pos = bs s := List.take_of_length_le (by rw [bs_length]; omega)
  rw [e] at ht
  rw [allS, ht, Bool.and_true]
  rw [Lib.toList_data]
  rfl

theorem allS_no (p : Int → Bool) (s : ByteArray) (pos : Nat) (h : pos < s.size) (hc : p ((s[pos]'h).toNat : Int) = false) : allS p (bs s) = false := by
  rw [allS, Bool.and_eq_false_iff]
  right
  rw [List.all_eq_false]
  exact ⟨s[pos]'h, List.getElem_mem (by rw [bs_length]; exact h), by rw [hc]; simp⟩

theorem take_all (p : Int → Bool) (s : ByteArray) (pos : Nat) (h : pos < s.size) (ht : ((bs s).take pos).all (fun c => p (c.toNat : Int)) = true) (hc : p ((s[pos]'h).toNat : Int) = true) :
    ((bs s).take (pos + 1)).all (fun c => p (c.toNat : Int)) = true := by
  rw [bs_take s pos h, List.all_append, ht]
  simpa using hc

def AllIn (p : Int → Bool) (s : ByteArray) (w w' : World) : Prop := ∃ pos, w' = w.iter s pos ∧ pos ≤ s.size ∧ ((bs s).take pos).all (fun c => p (c.toNat : Int)) = true

set_option maxHeartbeats 1000000 in
theorem all_tok (s : ByteArray) (w : World) :
    Calls Tryz.prog 94 #[.string s, .func (.func 95) #[] #[]] w fun e w' => e = .returned (.bool (allS tokI (bs s))) ∧ Below w.heap.size w w' := by
  go_enter Tryz.func94, Tryz.ntmps94
  go_wp2
  go_loopw [6] (fun _ w' => AllIn tokI s w w') (fun _ w' => s.size - w'.iterPos w.heap.size)
  case atStart => exact ⟨0, rfl, Nat.zero_le _, rfl⟩
  case round =>
    obtain ⟨pos, rfl, hle, ht⟩ := hrel
    have HT := Lib.hid ht
    clear ht
    by_cases hp : pos < s.size
    · obtain ⟨hr, h1⟩ := at_rune tok_low s pos hp
      have hnx : ∀ ty, (Instr.next (.pointer (some ⟨w.heap.size, 0, none⟩)) true ty).run Tryz.prog (w.iter s pos) = _ := fun ty => run_next_any w s pos ty hp
      cases hc : tokI ((s[pos]'hp).toNat : Int)
      · have HC := Lib.hid hc
        rw [hc] at hr
        have HR := Lib.hid hr
        clear hr hc h1
        go_wp2_with (go_at_call 95; refine (isToken_any _ _).mono ?_; rintro e w' ⟨rfl, rfl⟩; rw [HR.out])
        go_ret
        exact ⟨ret_b (allS_no tokI s pos hp HC.out).symm, below_iter _ _ _⟩
      · have h1' := h1 hc
        rw [h1'] at hnx
        have HC := Lib.hid hc
        rw [hc] at hr
        have HR := Lib.hid hr
        clear hr hc h1 h1'
        go_wp2_with (go_at_call 95; refine (isToken_any _ _).mono ?_; rintro e w' ⟨rfl, rfl⟩; rw [HR.out])
        go_roundw
        case rel => exact ⟨pos + 1, rfl, hp, take_all tokI s pos hp HT.out HC.out⟩
        case measure => simp; omega
    · have hnx := fun ty => run_next_end (P := Tryz.prog) w s pos ty hp
      go_wp2
      go_ret
      exact ⟨ret_b (allS_nil tokI s pos hp hle HT.out), below_iter _ _ _⟩

set_option maxHeartbeats 1000000 in
theorem all_vis (s : ByteArray) (w : World) :
    Calls Tryz.prog 94 #[.string s, .func (.func 96) #[] #[]] w fun e w' => e = .returned (.bool (allS visI (bs s))) ∧ Below w.heap.size w w' := by
  go_enter Tryz.func94, Tryz.ntmps94
  go_wp2
  go_loopw [6] (fun _ w' => AllIn visI s w w') (fun _ w' => s.size - w'.iterPos w.heap.size)
  case atStart => exact ⟨0, rfl, Nat.zero_le _, rfl⟩
  case round =>
    obtain ⟨pos, rfl, hle, ht⟩ := hrel
    have HT := Lib.hid ht
    clear ht
    by_cases hp : pos < s.size
    · obtain ⟨hr, h1⟩ := at_rune vis_low s pos hp
      have hnx : ∀ ty, (Instr.next (.pointer (some ⟨w.heap.size, 0, none⟩)) true ty).run Tryz.prog (w.iter s pos) = _ := fun ty => run_next_any w s pos ty hp
      cases hc : visI ((s[pos]'hp).toNat : Int)
      · have HC := Lib.hid hc
        rw [hc] at hr
        have HR := Lib.hid hr
        clear hr hc h1
        go_wp2_with (go_at_call 96; refine (isVisible_any _ _).mono ?_; rintro e w' ⟨rfl, rfl⟩; rw [HR.out])
        go_ret
        exact ⟨ret_b (allS_no visI s pos hp HC.out).symm, below_iter _ _ _⟩
      · have h1' := h1 hc
        rw [h1'] at hnx
        have HC := Lib.hid hc
        rw [hc] at hr
        have HR := Lib.hid hr
        clear hr hc h1 h1'
        go_wp2_with (go_at_call 96; refine (isVisible_any _ _).mono ?_; rintro e w' ⟨rfl, rfl⟩; rw [HR.out])
        go_roundw
        case rel => exact ⟨pos + 1, rfl, hp, take_all visI s pos hp HT.out HC.out⟩
        case measure => simp; omega
    · have hnx := fun ty => run_next_end (P := Tryz.prog) w s pos ty hp
      go_wp2
      go_ret
      exact ⟨ret_b (allS_nil visI s pos hp hle HT.out), below_iter _ _ _⟩

theorem token_any (s : ByteArray) (w : World) :
    Calls Tryz.prog 54 #[.string s] w fun e w' => e = .returned (.bool (allS tokI (bs s))) ∧ Below w.heap.size w w' := by
  go_enter Tryz.func54, Tryz.ntmps54
  go_wp2_with (go_at_call 94; refine (all_tok _ _).mono ?_; rintro e w' ⟨rfl, hb⟩)
  go_ret
  exact ⟨rfl, hb⟩
theorem visible_any (s : ByteArray) (w : World) :
    Calls Tryz.prog 55 #[.string s] w fun e w' => e = .returned (.bool (allS visI (bs s))) ∧ Below w.heap.size w w' := by
  go_enter Tryz.func55, Tryz.ntmps55
  go_wp2_with (go_at_call 94; refine (all_vis _ _).mono ?_; rintro e w' ⟨rfl, hb⟩)
  go_ret
  exact ⟨rfl, hb⟩
end Go.Proofs.YtgbhnjkigjecmaaGreatDoor.Asc

/-
  Words for memory: a block whose cells begin with known bytes, none of them frozen (what '[]byte(s)' lays), and a range over a string beside it. Plain lemmas, no condition.
-/
namespace Go.Proofs.YtgbhnjkigjecmaaGreatDoor.Asc
open Go.RowKit Go.Proofs.YtgbhnjkigjecmaaGreatDoor.Wd

def Row (w : World) (g : Nat) (l : List UInt8) : Prop :=
  ∃ cs fr, w.heap[g]? = some (.cells cs 5 fr) ∧ cs.size ≤ fr.1 ∧ l.length ≤ cs.size ∧ ∀ (j : Nat) (c : UInt8), l[j]? = some c → cs[j]? = some (b8 c)
section
variable {w w' : World} {g : Nat} {l : List UInt8}
theorem Row.lt (h : Row w g l) : g < w.heap.size := by
  obtain ⟨cs, fr, h, _⟩ := h
  rcases Nat.lt_or_ge g w.heap.size with hlt | hge
  · exact hlt
  · rw [Array.getElem?_eq_none hge] at h; cases h
theorem Row.cell (h : Row w g l) {j : Nat} {c : UInt8} (hj : l[j]? = some c) : w.cell? ⟨g, j, none⟩ = some (b8 c) := by
  obtain ⟨cs, fr, h, _, _, hc⟩ := h
  rw [cell_of_row w g j cs _ fr h]
  exact hc j c hj
theorem Row.frozen (h : Row w g l) {j : Nat} (hj : j < l.length) : w.frozen? ⟨g, j, none⟩ = false := by
  obtain ⟨cs, fr, h, h1, h2, _⟩ := h
  simp only [World.frozen?, h]
  simp
  omega
theorem Row.of_heap (h : Row w g l) (e : w'.heap[g]? = w.heap[g]?) : Row w' g l := by
  obtain ⟨cs, fr, h, r⟩ := h
  exact ⟨cs, fr, e.trans h, r⟩
theorem Row.alloc (h : Row w g l) (o : Obj) : Row (w.alloc o) g l := h.of_heap (Below.heap_alloc w o g h.lt)
theorem Row.below {B : Nat} (h : Row w g l) (hb : Below B w w') (hg : g < B) : Row w' g l := h.of_heap (hb.block g hg)
theorem Row.set_ (h : Row w g l) (i : Nat) (u : UInt8) : Row (w.setCell ⟨g, i, none⟩ (b8 u)) g (l.set i u) := by
  obtain ⟨cs, fr, h, h1, h2, hc⟩ := h
  refine ⟨cs.setIfInBounds i (b8 u), fr, by simp [World.setCell, Array.getElem?_modify, h], by simpa using h1, by simpa using h2, fun j c hj => ?_⟩
  rw [List.getElem?_set] at hj
  rw [Array.getElem?_setIfInBounds]
  split at hj
  · rename_i e
    subst e
    split at hj
    · rename_i hl
      injection hj with hj
      subst hj
      rw [if_pos rfl, if_pos (by omega)]
    · cases hj
  · rename_i e
    rw [if_neg e]
    exact hc j c hj
theorem Row.src (h : Row w g l) : Src w (some ⟨g, 0, none⟩) l.length l :=
  ⟨rfl, fun _ => ⟨_, rfl, h.lt, fun j c hj => by rw [add_none, Nat.zero_add]; exact h.cell hj⟩⟩
end

/-- []byte(s) -/
theorem bytes_of (w : World) (s : ByteArray) : ∃ c w0, (convert 9 22 (.string s)).run Tryz.prog w = .ok (.slice (some ⟨w.heap.size, 0, none⟩) s.size c) w0 ∧
    w0.heap.size = w.heap.size + 1 ∧ Row w0 w.heap.size (bs s) ∧ Below w.heap.size w w0 ∧ s.size ≤ c := by
  refine ⟨_, _, run_bytes_of_string w 9 22 5 s Tryz.underlying9 Tryz.underlying22 Tryz.underlying5, by simp, ?_, ((Below.refl _ _).drew).alloc (Nat.le_refl _) _, grownCap_ge _ _ _ _⟩
  refine ⟨_, _, heap_alloc_new w.drew _, Nat.le_refl _, ?_, fun j c hj => ?_⟩
  · rw [bs_length]
    simp only [bytesRow, Array.size_append, Array.size_map]
    exact Nat.le_add_right _ _
  · have hlt : j < s.data.size := by
      have := (List.getElem?_eq_some_iff.1 hj).1
      simpa [bs] using this
    rw [bytesRow_at s _ j hlt]
    have : s.data[j] = c := by
      have h2 := (List.getElem?_eq_some_iff.1 hj).2
      simpa [bs] using h2
    rw [this]
    rfl

theorem iter_setCell (w : World) (s : ByteArray) (pos : Nat) (p : Addr) (v : Value) (hp : p.block < w.heap.size) : (w.iter s pos).setCell p v = (w.setCell p v).iter s pos := by
  simp only [World.iter, World.alloc, World.setCell]
  congr 1
  apply Array.ext_getElem?
  intro i
  simp only [Array.getElem?_modify, Array.getElem?_push, Array.size_modify]
  by_cases h1 : i = w.heap.size
  · subst h1
    rw [if_pos rfl, if_pos rfl, if_neg (by omega)]
  · rw [if_neg h1, if_neg h1]
theorem iterPos_of {w1 : World} {N : Nat} (h : w1.heap.size = N) (s : ByteArray) (p : Nat) : (w1.iter s p).iterPos N = p := by subst h; simp
theorem size_set (w : World) (p : Addr) (v : Value) : (w.setCell p v).heap.size = w.heap.size := by simp [World.setCell]

/-- small up to k -/
def lowPre (l : List UInt8) (k : Nat) : List UInt8 := (l.take k).map lowB ++ l.drop k
theorem lowPre_length (l : List UInt8) (k : Nat) : (lowPre l k).length = l.length := by
  simp only [lowPre, List.length_append, List.length_map, List.length_take, List.length_drop]; omega
theorem lowPre_at (l : List UInt8) (k : Nat) (h : k < l.length) : (lowPre l k)[k]? = some l[k] := by
  rw [lowPre, List.getElem?_append_right (by simp; omega)]
  simp only [List.length_map, List.length_take, Nat.min_eq_left (Nat.le_of_lt h), Nat.sub_self, List.getElem?_drop, Nat.add_zero]
  exact List.getElem?_eq_getElem h
theorem lowPre_next (l : List UInt8) (k : Nat) (h : k < l.length) : lowPre l (k + 1) = (lowPre l k).set k (lowB l[k]) := by
  have hl : ((l.take k).map lowB).length = k := by simp; omega
  rw [lowPre, lowPre, List.take_succ_eq_append_getElem h, List.map_append, List.set_append, if_neg (by omega), hl, Nat.sub_self, List.drop_eq_getElem_cons h, List.set_cons_zero, List.append_assoc]
  rfl
theorem lowPre_same (l : List UInt8) (k : Nat) (h : k < l.length) (hc : lowB l[k] = l[k]) : lowPre l (k + 1) = lowPre l k := by
  rw [lowPre_next l k h, hc]
  have e := lowPre_at l k h
  apply List.ext_getElem?
  intro i
  rw [List.getElem?_set]
  split
  · rename_i hi
    subst hi
    rw [e, if_pos (by rw [lowPre_length]; exact h)]
  · rfl
theorem lowPre_skip (l : List UInt8) (k : Nat) : ∀ d, k + d ≤ l.length → (∀ j (h : j < l.length), k ≤ j → j < k + d → lowB l[j] = l[j]) → lowPre l (k + d) = lowPre l k
  | 0, _, _ => rfl
  | d + 1, h, hc => by
    rw [← Nat.add_assoc, lowPre_same l (k + d) (by omega) (hc _ _ (by omega) (by omega))]
    exact lowPre_skip l k d (by omega) (fun j hj h1 h2 => hc j hj h1 (by omega))
theorem lowPre_all (l : List UInt8) (k : Nat) (h : l.length ≤ k) : lowPre l k = l.map lowB := by
  rw [lowPre, List.take_of_length_le h, List.drop_of_length_le h, List.append_nil]
theorem lowB_high (c : UInt8) (h : ¬ (65 ≤ c.toNat ∧ c.toNat ≤ 90)) : lowB c = c := by
  rw [lowB, if_neg]
  rintro ⟨h1, h2⟩
  rw [UInt8.le_iff_toNat_le] at h1 h2
  exact h ⟨h1, h2⟩
theorem lowB_great (c : UInt8) (h1 : 65 ≤ c.toNat) (h2 : c.toNat ≤ 90) : (lowB c).toNat = c.toNat + 32 := by
  rw [lowB, if_pos ⟨by rw [UInt8.le_iff_toNat_le]; exact h1, by rw [UInt8.le_iff_toNat_le]; exact h2⟩]
  rw [UInt8.toNat_add]
  show (c.toNat + 32) % 256 = _
  omega
def lowS (s : ByteArray) : ByteArray := ⟨((bs s).map lowB).toArray⟩
theorem bs_low (s : ByteArray) : bs (lowS s) = (bs s).map lowB := rfl
theorem low_size (s : ByteArray) : (lowS s).size = s.size := by rw [← bs_length, bs_low, List.length_map, bs_length]
end Go.Proofs.YtgbhnjkigjecmaaGreatDoor.Asc

/-
  Contracts of package ascii's Lower and Same.
-/
namespace Go.Proofs.YtgbhnjkigjecmaaGreatDoor.Asc
open Go.RowKit Go.Proofs.YtgbhnjkigjecmaaGreatDoor.Wd

def LowIn (s : ByteArray) (w : World) (N : Nat) (w' : World) : Prop :=
  ∃ pos w1, w' = w1.iter s pos ∧ w1.heap.size = N ∧ Row w1 w.heap.size (lowPre (bs s) pos) ∧ pos ≤ s.size ∧ Below w.heap.size w w1

theorem conv {w : World} {A : Option Addr} {n c : Nat} {xs : List UInt8} (h : Src w A n xs) : (convert 22 9 (.slice A n c)).run Tryz.prog w = .ok (.string ⟨xs.toArray⟩) w :=
  conv_src h Tryz.underlying22 Tryz.underlying5 Tryz.underlying9

set_option maxHeartbeats 1000000 in
theorem lower_any (s : ByteArray) (w : World) :
    Calls Tryz.prog 35 #[.string s] w fun e w' => e = .returned (.string (lowS s)) ∧ Below w.heap.size w w' := by
  obtain ⟨cap, w0, hcv, hsz, hrow, hbel, hcap⟩ := bytes_of w s
  have HZ := Lib.hid hsz
  have hgN : w.heap.size < w0.heap.size := by omega
  clear hsz
  go_enter Tryz.func35, Tryz.ntmps35
  go_wp2
  clear hcv
  go_loopw [4] (fun _ w' => LowIn s w w0.heap.size w') (fun _ w' => s.size - w'.iterPos w0.heap.size)
  case atStart => exact ⟨0, w0, rfl, rfl, hrow, Nat.zero_le _, hbel⟩
  case round =>
    obtain ⟨pos, w1, rfl, hz1, hrow1, hle, hbel1⟩ := hrel
    have HZ1 := Lib.hid hz1
    clear hz1
    by_cases hp : pos < s.size
    · by_cases ha : (s[pos]'hp).toNat < 128
      · have hnx : ∀ ty, (Instr.next (.pointer (some ⟨w0.heap.size, 0, none⟩)) true ty).run Tryz.prog (w1.iter s pos) = .ok (.tuple #[.bool true, .int .i64 pos, .int .i32 (s[pos]'hp).toNat]) (w1.iter s (pos + 1)) := fun ty => by
          have := run_next_ascii (P := Tryz.prog) w1 s pos ty hp ha
          rw [HZ1.out] at this; exact this
        by_cases hc : 65 ≤ (s[pos]'hp).toNat ∧ (s[pos]'hp).toNat ≤ 90
        · obtain ⟨hc1, hc2⟩ := hc
          have hi1 : (65 : Int) ≤ ((s[pos]'hp).toNat : Int) := by omega
          have hi2 : ((s[pos]'hp).toNat : Int) ≤ 90 := by omega
          have hcell : (w1.iter s (pos + 1)).cell? ⟨w.heap.size, pos, none⟩ = some (.int .u8 ((s[pos]'hp).toNat : Int)) := (hrow1.alloc _).cell (lowPre_at (bs s) pos hp)
          have hfr : (w1.iter s (pos + 1)).frozen? ⟨w.heap.size, pos, none⟩ = false := (hrow1.alloc _).frozen (by rw [lowPre_length]; exact hp)
          go_wp2
          go_roundw
          case rel =>
            refine ⟨pos + 1, w1.setCell ⟨w.heap.size, pos, none⟩ (b8 (lowB (s[pos]'hp))), ?_, by rw [size_set]; exact HZ1.out, ?_, hp, hbel1.setCell (Nat.le_refl _) _⟩
            · rw [← iter_setCell w1 s (pos + 1) _ _ hrow1.lt, b8, lowB_great _ hc1 hc2]
              rfl
            · rw [lowPre_next (bs s) pos hp]
              exact hrow1.set_ pos _
          case measure =>
            rw [iter_setCell _ _ _ _ _ hrow1.lt, iterPos_of (by rw [size_set]; exact HZ1.out), iterPos_of HZ1.out]
            omega
        · have hsame := Lib.hid (lowPre_same (bs s) pos hp (lowB_high _ hc))
          by_cases hc1 : 65 ≤ (s[pos]'hp).toNat
          · have hi1 : (65 : Int) ≤ ((s[pos]'hp).toNat : Int) := by omega
            have hi2 : ¬ ((s[pos]'hp).toNat : Int) ≤ 90 := by omega
            clear hc
            go_wp2
            go_roundw
            case rel => exact ⟨pos + 1, w1, rfl, HZ1.out, by rw [hsame.out]; exact hrow1, hp, hbel1⟩
            case measure => rw [iterPos_of HZ1.out, iterPos_of HZ1.out]; omega
          · have hi1 : ¬ (65 : Int) ≤ ((s[pos]'hp).toNat : Int) := by omega
            clear hc
            go_wp2
            go_roundw
            case rel => exact ⟨pos + 1, w1, rfl, HZ1.out, by rw [hsame.out]; exact hrow1, hp, hbel1⟩
            case measure => rw [iterPos_of HZ1.out, iterPos_of HZ1.out]; omega
      · have hnx : ∀ ty, (Instr.next (.pointer (some ⟨w0.heap.size, 0, none⟩)) true ty).run Tryz.prog (w1.iter s pos) = .ok (.tuple #[.bool true, .int .i64 pos, .int .i32 (Utf8.decode s pos).1]) (w1.iter s (pos + (Utf8.decode s pos).2)) := fun ty => by
          have := run_next_any (P := Tryz.prog) w1 s pos ty hp
          rw [HZ1.out] at this; exact this
        obtain ⟨hd1, hd2⟩ := decode_high s pos hp (by omega)
        obtain ⟨hw1, hw2⟩ := wide_high s pos hp (by omega)
        have hsame := Lib.hid (lowPre_skip (bs s) pos (Utf8.decode s pos).2 (by rw [bs_length]; exact hw1) (fun j hj h1 h2 => lowB_high _ (by
          have h3 := hw2 (j - pos) (by omega)
          rw [show pos + (j - pos) = j by omega, get_eq s j hj] at h3
          show ¬ (65 ≤ (s[j]'hj).toNat ∧ (s[j]'hj).toNat ≤ 90)
          omega)))
        have hi1 : (65 : Int) ≤ ((Utf8.decode s pos).1 : Int) := by omega
        have hi2 : ¬ ((Utf8.decode s pos).1 : Int) ≤ 90 := by omega
        clear hw2
        go_wp2
        go_roundw
        case rel => exact ⟨_, w1, rfl, HZ1.out, by rw [hsame.out]; exact hrow1, hw1, hbel1⟩
        case measure => rw [iterPos_of HZ1.out, iterPos_of HZ1.out]; omega
    · have hnx : ∀ ty, (Instr.next (.pointer (some ⟨w0.heap.size, 0, none⟩)) true ty).run Tryz.prog (w1.iter s pos) = .ok (.tuple #[.bool false]) (w1.iter s pos) := fun ty => by
        have := run_next_end (P := Tryz.prog) w1 s pos ty hp
        rw [HZ1.out] at this; exact this
      have kc : (convert 22 9 (.slice (some ⟨w.heap.size, 0, none⟩) s.size cap)).run Tryz.prog (w1.iter s pos) = .ok (.string (lowS s)) (w1.iter s pos) := by
        have h := conv (c := cap) ((hrow1.alloc (.stringIter s pos)).src)
        rw [lowPre_length, bs_length, lowPre_all _ _ (by rw [bs_length]; omega)] at h
        exact h
      go_wp2
      go_ret
      exact ⟨rfl, hbel1.alloc hbel1.size _⟩

def sameS (a b : ByteArray) : Bool := (bs a).map lowB == (bs b).map lowB
theorem same_any (a b : ByteArray) (w : World) :
    Calls Tryz.prog 60 #[.string a, .string b] w fun e w' => e = .returned (.bool (sameS a b)) ∧ Below w.heap.size w w' := by
  go_enter Tryz.func60, Tryz.ntmps60
  go_wp2_with fail
  refine (lower_any a w).mono ?_
  rintro e w1 ⟨rfl, hb1⟩
  go_wp2_with fail
  refine (lower_any b w1).mono ?_
  rintro e w2 ⟨rfl, hb2⟩
  go_wp2_with fail
  go_ret
  exact ⟨ret_b (by rw [Lib.toList_data, Lib.toList_data]; rfl), hb1.trans (hb2.mono hb1.size)⟩
end Go.Proofs.YtgbhnjkigjecmaaGreatDoor.Asc

/-
  Contracts of hagioscoperef02's lower, Lower, token and Token for the seats of later layers: what they answer is what the contracts of package ascii say.
-/
namespace Go.Proofs.YtgbhnjkigjecmaaGreatDoor.Asc
open Go.RowKit Go.Proofs.YtgbhnjkigjecmaaGreatDoor.Wd

theorem bs_add (a b : ByteArray) : bs (a ++ b) = bs a ++ bs b := by simp [bs, ByteArray.data_append]
theorem bs_extract (s : ByteArray) (a t : Nat) : bs (s.extract a t) = ((bs s).drop a).take (t - a) := by
  simp [bs, ByteArray.data_extract, Array.toList_extract, List.extract_eq_take_drop]

theorem empty_of (a : ByteArray) (h : a.size = 0) : a = ⟨#[]⟩ := bs_inj (bs_nil a h)
theorem ret_s {a b : ByteArray} (h : a = b) : Ending.returned (.string a) = .returned (.string b) := by rw [h]
theorem ret_u8 {a b : Int} (h : a = b) : Ending.returned (.int .u8 a) = .returned (.int .u8 b) := by rw [h]

theorem rlower_any (c : UInt8) (w : World) : Calls Tryz.prog 87 #[.int .u8 (c.toNat : Int)] w fun e w' => e = .returned (.int .u8 ((lowB c).toNat : Int)) ∧ w = w' := by
  have hlt := c.toNat_lt
  by_cases a1 : 65 ≤ c.toNat
  · have i1 : (65 : Int) ≤ (c.toNat : Int) := by omega
    by_cases a2 : c.toNat ≤ 90
    · have i2 : (c.toNat : Int) ≤ 90 := by omega
      have H := Lib.hid (lowB_great c a1 a2)
      go_enter Tryz.func87, Tryz.ntmps87
      go_wp2
      go_ret
      exact ⟨ret_u8 (by rw [H.out]; omega), rfl⟩
    · have i2 : ¬ (c.toNat : Int) ≤ 90 := by omega
      have H := Lib.hid (lowB_high c (by omega))
      go_enter Tryz.func87, Tryz.ntmps87
      go_wp2
      go_ret
      exact ⟨ret_u8 (by rw [H.out]), rfl⟩
  · have i1 : ¬ (65 : Int) ≤ (c.toNat : Int) := by omega
    have H := Lib.hid (lowB_high c (by omega))
    go_enter Tryz.func87, Tryz.ntmps87
    go_wp2
    go_ret
    exact ⟨ret_u8 (by rw [H.out]), rfl⟩

def LowAt (s : ByteArray) (w : World) (x : Value) (w' : World) : Prop :=
  ∃ (k : Nat) (w1 : World), w1 = w' ∧ x = .int .i64 k ∧ k ≤ s.size ∧ Row w1 w.heap.size (lowPre (bs s) k) ∧ Below w.heap.size w w1

set_option maxHeartbeats 2000000 in
theorem rlowers_any (s : ByteArray) (w : World) (hs : s.size ≤ 140737488355328) :
    Calls Tryz.prog 45 #[.string s] w fun e w' => e = .returned (.string (lowS s)) ∧ Below w.heap.size w w' := by
  obtain ⟨cap, w0, hcv, hsz, hrow, hbel, hcap⟩ := bytes_of w s
  clear hsz
  go_enter Tryz.func45, Tryz.ntmps45
  go_wp2
  clear hcv
  go_loopw [4] (fun x w' => LowAt s w x w') (fun x _ => s.size - (intOf x).toNat)
  case atStart => exact ⟨0, _, rfl, rfl, Nat.zero_le _, hrow, hbel⟩
  case round =>
    obtain ⟨k, w1, rfl, rfl, hle, hrow1, hbel1⟩ := hrel
    by_cases hp : k < s.size
    · have hcell : w1.cell? ⟨w.heap.size, k, none⟩ = some (.int .u8 ((s[k]'hp).toNat : Int)) := hrow1.cell (lowPre_at (bs s) k hp)
      have hfr : w1.frozen? ⟨w.heap.size, k, none⟩ = false := hrow1.frozen (by rw [lowPre_length]; exact hp)
      go_wp2_with (go_at_call 87; refine (rlower_any _ _).mono ?_; rintro e w' ⟨rfl, rfl⟩)
      go_roundw
      case rel => exact ⟨k + 1, _, rfl, by go_num, hp, by rw [lowPre_next (bs s) k hp]; exact hrow1.set_ k _, hbel1.setCell (Nat.le_refl _) _⟩
      case measure => simp [intOf]; omega
    · have kc : (convert 22 9 (.slice (some ⟨w.heap.size, 0, none⟩) s.size cap)).run Tryz.prog w1 = .ok (.string (lowS s)) w1 := by
        have h := conv (c := cap) hrow1.src
        rw [lowPre_length, bs_length, lowPre_all _ _ (by rw [bs_length]; omega)] at h
        exact h
      go_wp2
      go_ret
      exact ⟨rfl, hbel1⟩
theorem ltr_of_low (c : UInt8) : ltrI (c.toNat : Int) = decide (97 ≤ ((lowB c).toNat : Int) ∧ ((lowB c).toNat : Int) ≤ 122) := by
  rw [ltrI]
  by_cases h : 65 ≤ c.toNat ∧ c.toNat ≤ 90
  · rw [lowB_great c h.1 h.2]
    rw [Bool.eq_iff_iff]; simp only [decide_eq_true_eq]; omega
  · rw [lowB_high c h]
    rw [Bool.eq_iff_iff]; simp only [decide_eq_true_eq]; omega

def signs : List UInt8 := [33, 35, 36, 37, 38, 39, 42, 43, 45, 46, 94, 95, 96, 124, 126]
set_option maxRecDepth 100000 in
theorem sgn_all : ∀ c : Fin 256, sgnI (c.1 : Int) = signs.any (fun x => x.toNat == c.1) := by decide
theorem sgn_is (c : UInt8) : sgnI (c.toNat : Int) = signs.any (fun x => x.toNat == c.toNat) := sgn_all ⟨c.toNat, c.toNat_lt⟩

theorem kc96 (w : World) : (convert 22 9 (.slice (some ⟨w.heap.size, 0, none⟩) 1 1)).run Tryz.prog (w.alloc (.cells #[.int .u8 96] 5)) = .ok (.string ⟨#[96]⟩) (w.alloc (.cells #[.int .u8 96] 5)) :=
  conv (c := 1) (Src.of_blk (off := 0) (xs := [96]) (Blk.new w 5 #[.int .u8 96]) (fun j c hj => by
    cases j with
    | zero => simp at hj; subst hj; rfl
    | succ j => simp at hj))

theorem bs_signs : bs ((⟨#[33, 35, 36, 37, 38, 39, 42, 43, 45, 46, 94, 95]⟩ : ByteArray) ++ ⟨#[96]⟩ ++ ⟨#[124, 126]⟩) = signs := by
  rw [bs_add, bs_add]; rfl
theorem any_next (p : UInt8 → Bool) (s : ByteArray) (k : Nat) (h : k < s.size) (h1 : ((bs s).take k).any p = false) (h2 : p (s[k]'h) = false) : ((bs s).take (k + 1)).any p = false := by
  rw [bs_take s k h, List.any_append, h1]; simpa using h2
theorem any_yes (p : UInt8 → Bool) (s : ByteArray) (k : Nat) (h : k < s.size) (h2 : p (s[k]'h) = true) : (bs s).any p = true :=
  List.any_eq_true.2 ⟨s[k]'h, List.getElem_mem (by rw [bs_length]; exact h), h2⟩

def SgIn (c : UInt8) (sg : ByteArray) (x : Value) : Prop := ∃ k : Nat, x = .int .i64 k ∧ k ≤ sg.size ∧ ((bs sg).take k).any (fun y => y.toNat == c.toNat) = false

set_option maxRecDepth 100000 in
set_option maxHeartbeats 2000000 in
theorem rtok_sign (c : UInt8) (w : World) (h1 : ltrI (c.toNat : Int) = false) (h2 : digI (c.toNat : Int) = false) :
    Calls Tryz.prog 78 #[.int .u8 (c.toNat : Int)] w fun e w' => e = .returned (.bool (sgnI (c.toNat : Int))) ∧ Below w.heap.size w w' := by
  have hu := (lowB c).toNat_lt
  have hk := kc96 w
  rw [ltr_of_low] at h1
  simp only [digI, decide_eq_false_iff_not] at h1 h2
  have HS := Lib.hid (sgn_is c)
  by_cases a1 : 97 ≤ ((lowB c).toNat : Int)
  all_goals
    by_cases a2 : 48 ≤ (c.toNat : Int)
    all_goals
      have a3 : 97 ≤ ((lowB c).toNat : Int) → decide (((lowB c).toNat : Int) ≤ 122) = false := fun _ => by simp; omega
      have a4 : 48 ≤ (c.toNat : Int) → decide ((c.toNat : Int) ≤ 57) = false := fun _ => by simp; omega
      first | replace a3 := a3 a1 | clear a3
      first | replace a4 := a4 a2 | clear a4
      clear h1 h2
      go_enter Tryz.func78, Tryz.ntmps78
      go_wp2_with (go_at_call 87; refine (rlower_any _ _).mono ?_; rintro e w' ⟨rfl, rfl⟩)
      clear hk
      generalize hsg : (⟨#[33, 35, 36, 37, 38, 39, 42, 43, 45, 46, 94, 95]⟩ : ByteArray) ++ ⟨#[96]⟩ ++ ⟨#[124, 126]⟩ = sg
      have hbs : bs sg = signs := by rw [← hsg]; exact bs_signs
      have hsz : sg.size = 15 := by rw [← bs_length, hbs]; rfl
      have hsz1 : sg.size ≤ 15 := by omega
      have HB := Lib.hid hbs
      clear hsg hbs hsz
      go_loop [5] (fun x => SgIn c sg x) (fun x => sg.size - (intOf x).toNat)
      case atStart => exact ⟨0, rfl, Nat.zero_le _, rfl⟩
      case round =>
        obtain ⟨k, rfl, hle, hno⟩ := hrel
        have HN := Lib.hid hno
        clear hno
        by_cases hp : k < sg.size
        · cases e1 : ((sg[k]'hp).toNat == c.toNat)
          · have HX := Lib.hid (any_next (fun y => y.toNat == c.toNat) sg k hp HN.out e1)
            have e2 : (((sg[k]'hp).toNat : Int) == (c.toNat : Int)) = false := by have := e1; simp at this ⊢; omega
            go_wp2
            go_round
            case rel => exact ⟨k + 1, by go_num, hp, HX.out⟩
            case measure => simp [intOf]; omega
          · have HX := Lib.hid (any_yes (fun y => y.toNat == c.toNat) sg k hp e1)
            have e2 : (((sg[k]'hp).toNat : Int) == (c.toNat : Int)) = true := by have := e1; simp at this ⊢; omega
            go_wp2
            go_ret
            exact ⟨ret_b (by rw [HS.out, ← HB.out, HX.out]), (Below.refl _ _).alloc (Nat.le_refl _) _⟩
        · go_wp2
          go_ret
          exact ⟨ret_b (by
            have h := HN.out
            rw [List.take_of_length_le (by rw [bs_length]; omega)] at h
            rw [HS.out, ← HB.out, h]), (Below.refl _ _).alloc (Nat.le_refl _) _⟩

theorem rtok_any (c : UInt8) (w : World) :
    Calls Tryz.prog 78 #[.int .u8 (c.toNat : Int)] w fun e w' => e = .returned (.bool (tokI (c.toNat : Int))) ∧ Below w.heap.size w w' := by
  cases h1 : ltrI (c.toNat : Int)
  · cases h2 : digI (c.toNat : Int)
    · have e : tokI (c.toNat : Int) = sgnI (c.toNat : Int) := by rw [tokI, h1, h2]; rfl
      rw [e]
      exact rtok_sign c w h1 h2
    · have E : Hid (tokI (c.toNat : Int) = true) := Lib.hid (by rw [tokI, h1, h2]; rfl)
      simp only [digI, decide_eq_true_eq] at h2
      rw [ltr_of_low] at h1
      simp only [decide_eq_false_iff_not] at h1
      obtain ⟨b1, b2⟩ := h2
      have hu := (lowB c).toNat_lt
      by_cases a1 : 97 ≤ ((lowB c).toNat : Int)
      · have a2 : ¬ ((lowB c).toNat : Int) ≤ 122 := by omega
        clear h1
        go_enter Tryz.func78, Tryz.ntmps78
        go_wp2_with (go_at_call 87; refine (rlower_any _ _).mono ?_; rintro e w' ⟨rfl, rfl⟩)
        go_ret
        exact ⟨ret_b E.out.symm, Below.refl _ _⟩
      · clear h1
        go_enter Tryz.func78, Tryz.ntmps78
        go_wp2_with (go_at_call 87; refine (rlower_any _ _).mono ?_; rintro e w' ⟨rfl, rfl⟩)
        go_ret
        exact ⟨ret_b E.out.symm, Below.refl _ _⟩
  · have E : Hid (tokI (c.toNat : Int) = true) := Lib.hid (by rw [tokI, h1]; rfl)
    rw [ltr_of_low] at h1
    simp only [decide_eq_true_eq] at h1
    obtain ⟨b1, b2⟩ := h1
    go_enter Tryz.func78, Tryz.ntmps78
    go_wp2_with (go_at_call 87; refine (rlower_any _ _).mono ?_; rintro e w' ⟨rfl, rfl⟩)
    go_ret
    exact ⟨ret_b E.out.symm, Below.refl _ _⟩

def TokIn (s : ByteArray) (w : World) (x : Value) (w' : World) : Prop :=
  ∃ (k : Nat) (w1 : World), w1 = w' ∧ x = .int .i64 k ∧ k ≤ s.size ∧ ((bs s).take k).all (fun c => tokI (c.toNat : Int)) = true ∧ Below w.heap.size w w1

set_option maxHeartbeats 1000000 in
theorem rtoken_any (s : ByteArray) (w : World) (hs : s.size ≤ maxLen) :
    Calls Tryz.prog 40 #[.string s] w fun e w' => e = .returned (.bool (allS tokI (bs s))) ∧ Below w.heap.size w w' := by
  unfold maxLen at hs
  go_enter Tryz.func40, Tryz.ntmps40
  go_wp2
  go_loopw [3] (fun x w' => TokIn s w x w') (fun x _ => s.size - (intOf x).toNat)
  case atStart => exact ⟨0, _, rfl, rfl, Nat.zero_le _, rfl, Below.refl _ _⟩
  case round =>
    obtain ⟨k, w1, rfl, rfl, hk, ht, hbel⟩ := hrel
    have HT := Lib.hid ht
    clear ht
    by_cases hlt : k < s.size
    · cases hc : tokI ((s[k]'hlt).toNat : Int)
      · have HC := Lib.hid hc
        clear hc
        go_wp2_with (go_at_call 78; refine (rtok_any _ _).mono ?_; rintro e w' ⟨rfl, hb⟩; replace hbel := hbel.trans (hb.mono hbel.size); clear hb; rw [HC.out])
        go_ret
        exact ⟨ret_b (allS_no tokI s k hlt HC.out).symm, hbel⟩
      · have HC := Lib.hid hc
        clear hc
        go_wp2_with (go_at_call 78; refine (rtok_any _ _).mono ?_; rintro e w' ⟨rfl, hb⟩; replace hbel := hbel.trans (hb.mono hbel.size); clear hb; rw [HC.out])
        go_roundw
        case rel => exact ⟨k + 1, _, rfl, by go_num, hlt, take_all tokI s k hlt HT.out HC.out, hbel⟩
        case measure => simp [intOf]; omega
    · go_wp2
      go_ret
      exact ⟨ret_b (allS_nil tokI s k hlt hk HT.out), hbel⟩
end Go.Proofs.YtgbhnjkigjecmaaGreatDoor.Asc
