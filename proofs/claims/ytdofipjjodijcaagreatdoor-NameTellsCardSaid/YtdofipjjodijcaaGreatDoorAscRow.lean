/-
  Words for memory: a block whose cells begin with known bytes, none of them frozen (what '[]byte(s)' lays), and a range over a string beside it. Plain lemmas, no condition.
-/
import Derived.Test.YtdofipjjodijcaaGreatDoorAscAll
import Derived.Laws.IdiomStrings
namespace Go.Proofs.YtdofipjjodijcaaGreatDoor.Asc
open Go.RowKit Go.Proofs.YtdofipjjodijcaaGreatDoor.Wd

def Row (w : World) (g : Nat) (l : List UInt8) : Prop :=
  ∃ cs fr, w.heap[g]? = some (.cells cs 5 fr) ∧ cs.size ≤ fr.1 ∧ l.length ≤ cs.size ∧ ∀ (j : Nat) (c : UInt8), l[j]? = some c → cs[j]? = some (b8 c)
section
variable {w w' : World} {g : Nat} {l : List UInt8}
theorem Row.lt (h : Row w g l) : g < w.heap.size := by
  obtain ⟨cs, fr, h, _⟩ := h
  rcases Nat.lt_or_ge g w.heap.size with hlt | hge
  · exact hlt
  · rw [Array.getElem?_eq_none hge] at h; cases h
theorem Row.cell (h : Row w g l) {j : Nat} {c : UInt8} (hj : l[j]? = some c) : w.cell? ⟨g, j, none⟩ = some (b8 c) := by
  obtain ⟨cs, fr, h, _, _, hc⟩ := h
  rw [cell_of_row w g j cs _ fr h]
  exact hc j c hj
theorem Row.frozen (h : Row w g l) {j : Nat} (hj : j < l.length) : w.frozen? ⟨g, j, none⟩ = false := by
  obtain ⟨cs, fr, h, h1, h2, _⟩ := h
  simp only [World.frozen?, h]
  simp
  omega
theorem Row.of_heap (h : Row w g l) (e : w'.heap[g]? = w.heap[g]?) : Row w' g l := by
  obtain ⟨cs, fr, h, r⟩ := h
  exact ⟨cs, fr, e.trans h, r⟩
theorem Row.alloc (h : Row w g l) (o : Obj) : Row (w.alloc o) g l := h.of_heap (Below.heap_alloc w o g h.lt)
theorem Row.below {B : Nat} (h : Row w g l) (hb : Below B w w') (hg : g < B) : Row w' g l := h.of_heap (hb.block g hg)
theorem Row.set_ (h : Row w g l) (i : Nat) (u : UInt8) : Row (w.setCell ⟨g, i, none⟩ (b8 u)) g (l.set i u) := by
  obtain ⟨cs, fr, h, h1, h2, hc⟩ := h
  refine ⟨cs.setIfInBounds i (b8 u), fr, by simp [World.setCell, Array.getElem?_modify, h], by simpa using h1, by simpa using h2, fun j c hj => ?_⟩
  rw [List.getElem?_set] at hj
  rw [Array.getElem?_setIfInBounds]
  split at hj
  · rename_i e
    subst e
    split at hj
    · rename_i hl
      injection hj with hj
      subst hj
      rw [if_pos rfl, if_pos (by omega)]
    · cases hj
  · rename_i e
    rw [if_neg e]
    exact hc j c hj
theorem Row.src (h : Row w g l) : Src w (some ⟨g, 0, none⟩) l.length l :=
  ⟨rfl, fun _ => ⟨_, rfl, h.lt, fun j c hj => by rw [add_none, Nat.zero_add]; exact h.cell hj⟩⟩
end

/-- []byte(s) -/
theorem bytes_of (w : World) (s : ByteArray) : ∃ c w0, (convert 9 30 (.string s)).run Tryz.prog w = .ok (.slice (some ⟨w.heap.size, 0, none⟩) s.size c) w0 ∧
    w0.heap.size = w.heap.size + 1 ∧ Row w0 w.heap.size (bs s) ∧ Below w.heap.size w w0 ∧ s.size ≤ c := by
  refine ⟨_, _, run_bytes_of_string w 9 30 5 s Tryz.underlying9 Tryz.underlying30 Tryz.underlying5, by simp, ?_, ((Below.refl _ _).drew).alloc (Nat.le_refl _) _, grownCap_ge _ _ _ _⟩
  refine ⟨_, _, heap_alloc_new w.drew _, Nat.le_refl _, ?_, fun j c hj => ?_⟩
  · rw [bs_length]
    simp only [bytesRow, Array.size_append, Array.size_map]
    exact Nat.le_add_right _ _
  · have hlt : j < s.data.size := by
      have := (List.getElem?_eq_some_iff.1 hj).1
      simpa [bs] using this
    rw [bytesRow_at s _ j hlt]
    have : s.data[j] = c := by
      have h2 := (List.getElem?_eq_some_iff.1 hj).2
      simpa [bs] using h2
    rw [this]
    rfl

theorem iter_setCell (w : World) (s : ByteArray) (pos : Nat) (p : Addr) (v : Value) (hp : p.block < w.heap.size) : (w.iter s pos).setCell p v = (w.setCell p v).iter s pos := by
  simp only [World.iter, World.alloc, World.setCell]
  congr 1
  apply Array.ext_getElem?
  intro i
  simp only [Array.getElem?_modify, Array.getElem?_push, Array.size_modify]
  by_cases h1 : i = w.heap.size
  · subst h1
    rw [if_pos rfl, if_pos rfl, if_neg (by omega)]
  · rw [if_neg h1, if_neg h1]
theorem iterPos_of {w1 : World} {N : Nat} (h : w1.heap.size = N) (s : ByteArray) (p : Nat) : (w1.iter s p).iterPos N = p := by subst h; simp
theorem size_set (w : World) (p : Addr) (v : Value) : (w.setCell p v).heap.size = w.heap.size := by simp [World.setCell]

/-- small up to k -/
def lowPre (l : List UInt8) (k : Nat) : List UInt8 := (l.take k).map lowB ++ l.drop k
theorem lowPre_length (l : List UInt8) (k : Nat) : (lowPre l k).length = l.length := by
  simp only [lowPre, List.length_append, List.length_map, List.length_take, List.length_drop]; omega
theorem lowPre_at (l : List UInt8) (k : Nat) (h : k < l.length) : (lowPre l k)[k]? = some l[k] := by
  rw [lowPre, List.getElem?_append_right (by simp; omega)]
  simp only [List.length_map, List.length_take, Nat.min_eq_left (Nat.le_of_lt h), Nat.sub_self, List.getElem?_drop, Nat.add_zero]
  exact List.getElem?_eq_getElem h
theorem lowPre_next (l : List UInt8) (k : Nat) (h : k < l.length) : lowPre l (k + 1) = (lowPre l k).set k (lowB l[k]) := by
  have hl : ((l.take k).map lowB).length = k := by simp; omega
  rw [lowPre, lowPre, List.take_succ_eq_append_getElem h, List.map_append, List.set_append, if_neg (by omega), hl, Nat.sub_self, List.drop_eq_getElem_cons h, List.set_cons_zero, List.append_assoc]
  rfl
theorem lowPre_same (l : List UInt8) (k : Nat) (h : k < l.length) (hc : lowB l[k] = l[k]) : lowPre l (k + 1) = lowPre l k := by
  rw [lowPre_next l k h, hc]
  have e := lowPre_at l k h
  apply List.ext_getElem?
  intro i
  rw [List.getElem?_set]
  split
  · rename_i hi
    subst hi
    rw [e, if_pos (by rw [lowPre_length]; exact h)]
  · rfl
theorem lowPre_skip (l : List UInt8) (k : Nat) : ∀ d, k + d ≤ l.length → (∀ j (h : j < l.length), k ≤ j → j < k + d → lowB l[j] = l[j]) → lowPre l (k + d) = lowPre l k
  | 0, _, _ => rfl
  | d + 1, h, hc => by
    rw [← Nat.add_assoc, lowPre_same l (k + d) (by omega) (hc _ _ (by omega) (by omega))]
    exact lowPre_skip l k d (by omega) (fun j hj h1 h2 => hc j hj h1 (by omega))
theorem lowPre_all (l : List UInt8) (k : Nat) (h : l.length ≤ k) : lowPre l k = l.map lowB := by
  rw [lowPre, List.take_of_length_le h, List.drop_of_length_le h, List.append_nil]
theorem lowB_high (c : UInt8) (h : ¬ (65 ≤ c.toNat ∧ c.toNat ≤ 90)) : lowB c = c := by
  rw [lowB, if_neg]
  rintro ⟨h1, h2⟩
  rw [UInt8.le_iff_toNat_le] at h1 h2
  exact h ⟨h1, h2⟩
theorem lowB_great (c : UInt8) (h1 : 65 ≤ c.toNat) (h2 : c.toNat ≤ 90) : (lowB c).toNat = c.toNat + 32 := by
  rw [lowB, if_pos ⟨by rw [UInt8.le_iff_toNat_le]; exact h1, by rw [UInt8.le_iff_toNat_le]; exact h2⟩]
  rw [UInt8.toNat_add]
  show (c.toNat + 32) % 256 = _
  omega
def lowS (s : ByteArray) : ByteArray := ⟨((bs s).map lowB).toArray⟩
theorem bs_low (s : ByteArray) : bs (lowS s) = (bs s).map lowB := rfl
theorem low_size (s : ByteArray) : (lowS s).size = s.size := by rw [← bs_length, bs_low, List.length_map, bs_length]
end Go.Proofs.YtdofipjjodijcaaGreatDoor.Asc
