/-
  Contracts of package ascii's functions of one rune: isLetter, isDigit, isSign, isToken, isVisible, isBlank, digit.
-/
import Derived.Test.YtlpondbcnfaggaaGreatDoorQ04
import Derived.Lib.Strings
import Derived.Laws.IdiomStrings
import Derived.Lib.UnsafeStr
import Derived.Lib.BufferWrite
import Derived.Lib.Buffer
import Derived.Laws.MakeOwn
import Derived.Test.YtlpondbcnfaggaaGreatDoorQ11
import Derived.Test.YtlpondbcnfaggaaGreatDoorQ01
namespace Go.Proofs.YtlpondbcnfaggaaGreatDoor.Asc
open Go.RowKit Go.Proofs.YtlpondbcnfaggaaGreatDoor.Wd


theorem isVisible_any (r : Int) (w : World) : Calls Tryz.prog 114 #[.int .i32 r] w fun e w' => e = .returned (.bool (visI r)) ∧ w = w' := by
  by_cases a1 : 33 ≤ r <;> by_cases a2 : r ≤ 126
  all_goals first
    | (exfalso; omega)
    | (go_enter Tryz.func114, Tryz.ntmps114
       go_wp2
       go_ret
       exact ⟨ret_b (by simp [visI] <;> omega), rfl⟩)




end Go.Proofs.YtlpondbcnfaggaaGreatDoor.Asc

/-
  Contracts of package ascii's all, Token and Visible.
-/
namespace Go.Proofs.YtlpondbcnfaggaaGreatDoor.Asc
open Go.RowKit Go.Proofs.YtlpondbcnfaggaaGreatDoor.Wd

theorem allS_nil (p : Int → Bool) (s : ByteArray) (pos : Nat) (h : ¬ pos < s.size) (hle : pos ≤ s.size) (ht : ((bs s).take pos).all (fun c => p (c.toNat : Int)) = true) :
    (!s.toList.isEmpty) = allS p (bs s) := by
  have e : (bs s).take pos = bs s := List.take_of_length_le (by rw [bs_length]; omega)
  rw [e] at ht
  rw [allS, ht, Bool.and_true]
  rw [Lib.toList_data]
  rfl

theorem allS_no (p : Int → Bool) (s : ByteArray) (pos : Nat) (h : pos < s.size) (hc : p ((s[pos]'h).toNat : Int) = false) : allS p (bs s) = false := by
  rw [allS, Bool.and_eq_false_iff]
  right
  rw [List.all_eq_false]
  exact ⟨s[pos]'h, List.getElem_mem (by rw [bs_length]; exact h), by rw [hc]; simp⟩

theorem take_all (p : Int → Bool) (s : ByteArray) (pos : Nat) (h : pos < s.size) (ht : ((bs s).take pos).all (fun c => p (c.toNat : Int)) = true) (hc : p ((s[pos]'h).toNat : Int) = true) :
    ((bs s).take (pos + 1)).all (fun c => p (c.toNat : Int)) = true := by
  rw [bs_take s pos h, List.all_append, ht]
  simpa using hc

def AllIn (p : Int → Bool) (s : ByteArray) (w w' : World) : Prop := ∃ pos, w' = w.iter s pos ∧ pos ≤ s.size ∧ ((bs s).take pos).all (fun c => p (c.toNat : Int)) = true


set_option maxHeartbeats 1000000 in
theorem all_vis (s : ByteArray) (w : World) :
    Calls Tryz.prog 113 #[.string s, .func (.func 114) #[] #[]] w fun e w' => e = .returned (.bool (allS visI (bs s))) ∧ Below w.heap.size w w' := by
  go_enter Tryz.func113, Tryz.ntmps113
  go_wp2
  go_loopw [6] (fun _ w' => AllIn visI s w w') (fun _ w' => s.size - w'.iterPos w.heap.size)
  case atStart => exact ⟨0, rfl, Nat.zero_le _, rfl⟩
  case round =>
    obtain ⟨pos, rfl, hle, ht⟩ := hrel
    have HT := Lib.hid ht
    clear ht
    by_cases hp : pos < s.size
    · obtain ⟨hr, h1⟩ := at_rune vis_low s pos hp
      have hnx : ∀ ty, (Instr.next (.pointer (some ⟨w.heap.size, 0, none⟩)) true ty).run Tryz.prog (w.iter s pos) = _ := fun ty => run_next_any w s pos ty hp
      cases hc : visI ((s[pos]'hp).toNat : Int)
      · have HC := Lib.hid hc
        rw [hc] at hr
        have HR := Lib.hid hr
        clear hr hc h1
        go_wp2_with (go_at_call 114; refine (isVisible_any _ _).mono ?_; rintro e w' ⟨rfl, rfl⟩; rw [HR.out])
        go_ret
        exact ⟨ret_b (allS_no visI s pos hp HC.out).symm, below_iter _ _ _⟩
      · have h1' := h1 hc
        rw [h1'] at hnx
        have HC := Lib.hid hc
        rw [hc] at hr
        have HR := Lib.hid hr
        clear hr hc h1 h1'
        go_wp2_with (go_at_call 114; refine (isVisible_any _ _).mono ?_; rintro e w' ⟨rfl, rfl⟩; rw [HR.out])
        go_roundw
        case rel => exact ⟨pos + 1, rfl, hp, take_all visI s pos hp HT.out HC.out⟩
        case measure => simp; omega
    · have hnx := fun ty => run_next_end (P := Tryz.prog) w s pos ty hp
      go_wp2
      go_ret
      exact ⟨ret_b (allS_nil visI s pos hp hle HT.out), below_iter _ _ _⟩

theorem visible_any (s : ByteArray) (w : World) :
    Calls Tryz.prog 72 #[.string s] w fun e w' => e = .returned (.bool (allS visI (bs s))) ∧ Below w.heap.size w w' := by
  go_enter Tryz.func72, Tryz.ntmps72
  go_wp2_with (go_at_call 113; refine (all_vis _ _).mono ?_; rintro e w' ⟨rfl, hb⟩)
  go_ret
  exact ⟨rfl, hb⟩
end Go.Proofs.YtlpondbcnfaggaaGreatDoor.Asc

/-
  Words for memory: a block whose cells begin with known bytes, none of them frozen (what '[]byte(s)' lays), and a range over a string beside it. Plain lemmas, no condition.
-/
namespace Go.Proofs.YtlpondbcnfaggaaGreatDoor.Asc
open Go.RowKit Go.Proofs.YtlpondbcnfaggaaGreatDoor.Wd

def Row (w : World) (g : Nat) (l : List UInt8) : Prop :=
  ∃ cs fr, w.heap[g]? = some (.cells cs 5 fr) ∧ cs.size ≤ fr.1 ∧ l.length ≤ cs.size ∧ ∀ (j : Nat) (c : UInt8), l[j]? = some c → cs[j]? = some (b8 c)
section
variable {w w' : World} {g : Nat} {l : List UInt8}
theorem Row.lt (h : Row w g l) : g < w.heap.size := by
  obtain ⟨cs, fr, h, _⟩ := h
  rcases Nat.lt_or_ge g w.heap.size with hlt | hge
  · exact hlt
  · rw [Array.getElem?_eq_none hge] at h; cases h
theorem Row.cell (h : Row w g l) {j : Nat} {c : UInt8} (hj : l[j]? = some c) : w.cell? ⟨g, j, none⟩ = some (b8 c) := by
  obtain ⟨cs, fr, h, _, _, hc⟩ := h
  rw [cell_of_row w g j cs _ fr h]
  exact hc j c hj
theorem Row.frozen (h : Row w g l) {j : Nat} (hj : j < l.length) : w.frozen? ⟨g, j, none⟩ = false := by
  obtain ⟨cs, fr, h, h1, h2, _⟩ := h
  simp only [World.frozen?, h]
  simp
  omega
theorem Row.of_heap (h : Row w g l) (e : w'.heap[g]? = w.heap[g]?) : Row w' g l := by
  obtain ⟨cs, fr, h, r⟩ := h
  exact ⟨cs, fr, e.trans h, r⟩
theorem Row.alloc (h : Row w g l) (o : Obj) : Row (w.alloc o) g l := h.of_heap (Below.heap_alloc w o g h.lt)
theorem Row.below {B : Nat} (h : Row w g l) (hb : Below B w w') (hg : g < B) : Row w' g l := h.of_heap (hb.block g hg)
theorem Row.set_ (h : Row w g l) (i : Nat) (u : UInt8) : Row (w.setCell ⟨g, i, none⟩ (b8 u)) g (l.set i u) := by
  obtain ⟨cs, fr, h, h1, h2, hc⟩ := h
  refine ⟨cs.setIfInBounds i (b8 u), fr, by simp [World.setCell, Array.getElem?_modify, h], by simpa using h1, by simpa using h2, fun j c hj => ?_⟩
  rw [List.getElem?_set] at hj
  rw [Array.getElem?_setIfInBounds]
  split at hj
  · rename_i e
    subst e
    split at hj
    · rename_i hl
      injection hj with hj
      subst hj
      rw [if_pos rfl, if_pos (by omega)]
    · cases hj
  · rename_i e
    rw [if_neg e]
    exact hc j c hj
theorem Row.src (h : Row w g l) : Src w (some ⟨g, 0, none⟩) l.length l :=
  ⟨rfl, fun _ => ⟨_, rfl, h.lt, fun j c hj => by rw [add_none, Nat.zero_add]; exact h.cell hj⟩⟩
end

/-- []byte(s) -/
theorem bytes_of (w : World) (s : ByteArray) : ∃ c w0, (convert 9 110 (.string s)).run Tryz.prog w = .ok (.slice (some ⟨w.heap.size, 0, none⟩) s.size c) w0 ∧
    w0.heap.size = w.heap.size + 1 ∧ Row w0 w.heap.size (bs s) ∧ Below w.heap.size w w0 ∧ s.size ≤ c := by
  refine ⟨_, _, run_bytes_of_string w 9 110 5 s Tryz.underlying9 Tryz.underlying110 Tryz.underlying5, by simp, ?_, ((Below.refl _ _).drew).alloc (Nat.le_refl _) _, grownCap_ge _ _ _ _⟩
  refine ⟨_, _, heap_alloc_new w.drew _, Nat.le_refl _, ?_, fun j c hj => ?_⟩
  · rw [bs_length]
    simp only [bytesRow, Array.size_append, Array.size_map]
    exact Nat.le_add_right _ _
  · have hlt : j < s.data.size := by
      have := (List.getElem?_eq_some_iff.1 hj).1
      simpa [bs] using this
    rw [bytesRow_at s _ j hlt]
    have : s.data[j] = c := by
      have h2 := (List.getElem?_eq_some_iff.1 hj).2
      simpa [bs] using h2
    rw [this]
    rfl

theorem iter_setCell (w : World) (s : ByteArray) (pos : Nat) (p : Addr) (v : Value) (hp : p.block < w.heap.size) : (w.iter s pos).setCell p v = (w.setCell p v).iter s pos := by
  simp only [World.iter, World.alloc, World.setCell]
  congr 1
  apply Array.ext_getElem?
  intro i
  simp only [Array.getElem?_modify, Array.getElem?_push, Array.size_modify]
  by_cases h1 : i = w.heap.size
  · subst h1
    rw [if_pos rfl, if_pos rfl, if_neg (by omega)]
  · rw [if_neg h1, if_neg h1]
theorem iterPos_of {w1 : World} {N : Nat} (h : w1.heap.size = N) (s : ByteArray) (p : Nat) : (w1.iter s p).iterPos N = p := by subst h; simp
theorem size_set (w : World) (p : Addr) (v : Value) : (w.setCell p v).heap.size = w.heap.size := by simp [World.setCell]

/-- small up to k -/
def lowPre (l : List UInt8) (k : Nat) : List UInt8 := (l.take k).map lowB ++ l.drop k
theorem lowPre_length (l : List UInt8) (k : Nat) : (lowPre l k).length = l.length := by
  simp only [lowPre, List.length_append, List.length_map, List.length_take, List.length_drop]; omega
theorem lowPre_at (l : List UInt8) (k : Nat) (h : k < l.length) : (lowPre l k)[k]? = some l[k] := by
  rw [lowPre, List.getElem?_append_right (by simp; omega)]
  simp only [List.length_map, List.length_take, Nat.min_eq_left (Nat.le_of_lt h), Nat.sub_self, List.getElem?_drop, Nat.add_zero]
  exact List.getElem?_eq_getElem h
theorem lowPre_next (l : List UInt8) (k : Nat) (h : k < l.length) : lowPre l (k + 1) = (lowPre l k).set k (lowB l[k]) := by
  have hl : ((l.take k).map lowB).length = k := by simp; omega
  rw [lowPre, lowPre, List.take_succ_eq_append_getElem h, List.map_append, List.set_append, if_neg (by omega), hl, Nat.sub_self, List.drop_eq_getElem_cons h, List.set_cons_zero, List.append_assoc]
  rfl
theorem lowPre_same (l : List UInt8) (k : Nat) (h : k < l.length) (hc : lowB l[k] = l[k]) : lowPre l (k + 1) = lowPre l k := by
  rw [lowPre_next l k h, hc]
  have e := lowPre_at l k h
  apply List.ext_getElem?
  intro i
  rw [List.getElem?_set]
  split
  · rename_i hi
    subst hi
    rw [e, if_pos (by rw [lowPre_length]; exact h)]
  · rfl
theorem lowPre_skip (l : List UInt8) (k : Nat) : ∀ d, k + d ≤ l.length → (∀ j (h : j < l.length), k ≤ j → j < k + d → lowB l[j] = l[j]) → lowPre l (k + d) = lowPre l k
  | 0, _, _ => rfl
  | d + 1, h, hc => by
    rw [← Nat.add_assoc, lowPre_same l (k + d) (by omega) (hc _ _ (by omega) (by omega))]
    exact lowPre_skip l k d (by omega) (fun j hj h1 h2 => hc j hj h1 (by omega))
theorem lowPre_all (l : List UInt8) (k : Nat) (h : l.length ≤ k) : lowPre l k = l.map lowB := by
  rw [lowPre, List.take_of_length_le h, List.drop_of_length_le h, List.append_nil]
theorem lowB_high (c : UInt8) (h : ¬ (65 ≤ c.toNat ∧ c.toNat ≤ 90)) : lowB c = c := by
  rw [lowB, if_neg]
  rintro ⟨h1, h2⟩
  rw [UInt8.le_iff_toNat_le] at h1 h2
  exact h ⟨h1, h2⟩
theorem lowB_great (c : UInt8) (h1 : 65 ≤ c.toNat) (h2 : c.toNat ≤ 90) : (lowB c).toNat = c.toNat + 32 := by
  rw [lowB, if_pos ⟨by rw [UInt8.le_iff_toNat_le]; exact h1, by rw [UInt8.le_iff_toNat_le]; exact h2⟩]
  rw [UInt8.toNat_add]
  show (c.toNat + 32) % 256 = _
  omega
def lowS (s : ByteArray) : ByteArray := ⟨((bs s).map lowB).toArray⟩
theorem bs_low (s : ByteArray) : bs (lowS s) = (bs s).map lowB := rfl
theorem low_size (s : ByteArray) : (lowS s).size = s.size := by rw [← bs_length, bs_low, List.length_map, bs_length]
end Go.Proofs.YtlpondbcnfaggaaGreatDoor.Asc

/-
  Contracts of package ascii's Lower and Same.
-/
namespace Go.Proofs.YtlpondbcnfaggaaGreatDoor.Asc
open Go.RowKit Go.Proofs.YtlpondbcnfaggaaGreatDoor.Wd

def LowIn (s : ByteArray) (w : World) (N : Nat) (w' : World) : Prop :=
  ∃ pos w1, w' = w1.iter s pos ∧ w1.heap.size = N ∧ Row w1 w.heap.size (lowPre (bs s) pos) ∧ pos ≤ s.size ∧ Below w.heap.size w w1

theorem conv {w : World} {A : Option Addr} {n c : Nat} {xs : List UInt8} (h : Src w A n xs) : (convert 110 9 (.slice A n c)).run Tryz.prog w = .ok (.string ⟨xs.toArray⟩) w :=
  conv_src h Tryz.underlying110 Tryz.underlying5 Tryz.underlying9

set_option maxHeartbeats 1000000 in
theorem lower_any (s : ByteArray) (w : World) :
    Calls Tryz.prog 50 #[.string s] w fun e w' => e = .returned (.string (lowS s)) ∧ Below w.heap.size w w' := by
  obtain ⟨cap, w0, hcv, hsz, hrow, hbel, hcap⟩ := bytes_of w s
  have HZ := Lib.hid hsz
  have hgN : w.heap.size < w0.heap.size := by omega
  clear hsz
  go_enter Tryz.func50, Tryz.ntmps50
  go_wp2
  clear hcv
  go_loopw [4] (fun _ w' => LowIn s w w0.heap.size w') (fun _ w' => s.size - w'.iterPos w0.heap.size)
  case atStart => exact ⟨0, w0, rfl, rfl, hrow, Nat.zero_le _, hbel⟩
  case round =>
    obtain ⟨pos, w1, rfl, hz1, hrow1, hle, hbel1⟩ := hrel
    have HZ1 := Lib.hid hz1
    clear hz1
    by_cases hp : pos < s.size
    · by_cases ha : (s[pos]'hp).toNat < 128
      · have hnx : ∀ ty, (Instr.next (.pointer (some ⟨w0.heap.size, 0, none⟩)) true ty).run Tryz.prog (w1.iter s pos) = .ok (.tuple #[.bool true, .int .i64 pos, .int .i32 (s[pos]'hp).toNat]) (w1.iter s (pos + 1)) := fun ty => by
          have := run_next_ascii (P := Tryz.prog) w1 s pos ty hp ha
          rw [HZ1.out] at this; exact this
        by_cases hc : 65 ≤ (s[pos]'hp).toNat ∧ (s[pos]'hp).toNat ≤ 90
        · obtain ⟨hc1, hc2⟩ := hc
          have hi1 : (65 : Int) ≤ ((s[pos]'hp).toNat : Int) := by omega
          have hi2 : ((s[pos]'hp).toNat : Int) ≤ 90 := by omega
          have hcell : (w1.iter s (pos + 1)).cell? ⟨w.heap.size, pos, none⟩ = some (.int .u8 ((s[pos]'hp).toNat : Int)) := (hrow1.alloc _).cell (lowPre_at (bs s) pos hp)
          have hfr : (w1.iter s (pos + 1)).frozen? ⟨w.heap.size, pos, none⟩ = false := (hrow1.alloc _).frozen (by rw [lowPre_length]; exact hp)
          go_wp2
          go_roundw
          case rel =>
            refine ⟨pos + 1, w1.setCell ⟨w.heap.size, pos, none⟩ (b8 (lowB (s[pos]'hp))), ?_, by rw [size_set]; exact HZ1.out, ?_, hp, hbel1.setCell (Nat.le_refl _) _⟩
            · rw [← iter_setCell w1 s (pos + 1) _ _ hrow1.lt, b8, lowB_great _ hc1 hc2]
              rfl
            · rw [lowPre_next (bs s) pos hp]
              exact hrow1.set_ pos _
          case measure =>
            rw [iter_setCell _ _ _ _ _ hrow1.lt, iterPos_of (by rw [size_set]; exact HZ1.out), iterPos_of HZ1.out]
            omega
        · have hsame := Lib.hid (lowPre_same (bs s) pos hp (lowB_high _ hc))
          by_cases hc1 : 65 ≤ (s[pos]'hp).toNat
          · have hi1 : (65 : Int) ≤ ((s[pos]'hp).toNat : Int) := by omega
            have hi2 : ¬ ((s[pos]'hp).toNat : Int) ≤ 90 := by omega
            clear hc
            go_wp2
            go_roundw
            case rel => exact ⟨pos + 1, w1, rfl, HZ1.out, by rw [hsame.out]; exact hrow1, hp, hbel1⟩
            case measure => rw [iterPos_of HZ1.out, iterPos_of HZ1.out]; omega
          · have hi1 : ¬ (65 : Int) ≤ ((s[pos]'hp).toNat : Int) := by omega
            clear hc
            go_wp2
            go_roundw
            case rel => exact ⟨pos + 1, w1, rfl, HZ1.out, by rw [hsame.out]; exact hrow1, hp, hbel1⟩
            case measure => rw [iterPos_of HZ1.out, iterPos_of HZ1.out]; omega
      · have hnx : ∀ ty, (Instr.next (.pointer (some ⟨w0.heap.size, 0, none⟩)) true ty).run Tryz.prog (w1.iter s pos) = .ok (.tuple #[.bool true, .int .i64 pos, .int .i32 (Utf8.decode s pos).1]) (w1.iter s (pos + (Utf8.decode s pos).2)) := fun ty => by
          have := run_next_any (P := Tryz.prog) w1 s pos ty hp
          rw [HZ1.out] at this; exact this
        obtain ⟨hd1, hd2⟩ := decode_high s pos hp (by omega)
        obtain ⟨hw1, hw2⟩ := wide_high s pos hp (by omega)
        have hsame := Lib.hid (lowPre_skip (bs s) pos (Utf8.decode s pos).2 (by rw [bs_length]; exact hw1) (fun j hj h1 h2 => lowB_high _ (by
          have h3 := hw2 (j - pos) (by omega)
          rw [show pos + (j - pos) = j by omega, get_eq s j hj] at h3
          show ¬ (65 ≤ (s[j]'hj).toNat ∧ (s[j]'hj).toNat ≤ 90)
          omega)))
        have hi1 : (65 : Int) ≤ ((Utf8.decode s pos).1 : Int) := by omega
        have hi2 : ¬ ((Utf8.decode s pos).1 : Int) ≤ 90 := by omega
        clear hw2
        go_wp2
        go_roundw
        case rel => exact ⟨_, w1, rfl, HZ1.out, by rw [hsame.out]; exact hrow1, hw1, hbel1⟩
        case measure => rw [iterPos_of HZ1.out, iterPos_of HZ1.out]; omega
    · have hnx : ∀ ty, (Instr.next (.pointer (some ⟨w0.heap.size, 0, none⟩)) true ty).run Tryz.prog (w1.iter s pos) = .ok (.tuple #[.bool false]) (w1.iter s pos) := fun ty => by
        have := run_next_end (P := Tryz.prog) w1 s pos ty hp
        rw [HZ1.out] at this; exact this
      have kc : (convert 110 9 (.slice (some ⟨w.heap.size, 0, none⟩) s.size cap)).run Tryz.prog (w1.iter s pos) = .ok (.string (lowS s)) (w1.iter s pos) := by
        have h := conv (c := cap) ((hrow1.alloc (.stringIter s pos)).src)
        rw [lowPre_length, bs_length, lowPre_all _ _ (by rw [bs_length]; omega)] at h
        exact h
      go_wp2
      go_ret
      exact ⟨rfl, hbel1.alloc hbel1.size _⟩

def sameS (a b : ByteArray) : Bool := (bs a).map lowB == (bs b).map lowB
end Go.Proofs.YtlpondbcnfaggaaGreatDoor.Asc

/-
  Contract of strings.Clone over this seat's translation (XAscTrim's, for seats without Trim).
-/
namespace Go.Proofs.YtlpondbcnfaggaaGreatDoor.Asc
open Go.RowKit Go.Proofs.YtlpondbcnfaggaaGreatDoor.Wd

theorem info8 : (Tryz.prog.info? 5).map (fun i => (i.zero, i.size, i.bytes)) = some (some (.int .u8 0), 1, 1) := by kernel_rfl
theorem cells8 : Tryz.prog.cellsOf 5 = 1 := by
  obtain ⟨i0, hi, _, hz1, _⟩ := info_parts info8
  simp [Program.cellsOf, hi, hz1]
theorem size8 : (Tryz.prog.info? 5).map (·.size) = some 1 := by
  obtain ⟨i0, hi, _, hz1, _⟩ := info_parts info8
  rw [hi]; simp [hz1]
theorem bytes_same (l : List UInt8) : Lib.byteCells l = cellsOf l := rfl

/-- make([]byte, n) -/
theorem make_any (n : Nat) (hn : n ≤ 281474976710656) (u : World) : (Instr.makeSlice 110 (.int .i64 (n : Int)) (.int .i64 (n : Int))).run Tryz.prog u =
    .ok (.slice (some ⟨u.heap.size, 0, none⟩) n n) (u.alloc (.cells (cellsOf (List.replicate n 0)).toArray 5)) := by
  obtain ⟨i0, hi, hz0, hz1, hz2⟩ := info_parts info8
  have h := run_make (P := Tryz.prog) u 110 5 i0 (.int .u8 0) Tryz.underlying110 hi hz0 .i64 .i64 (n : Int) (n : Int) (by omega) (Int.le_refl _) (by rw [hz2]; omega) (by omega)
  rw [Int.toNat_natCast] at h
  rw [cellsOf_zero, ← toList_madeCells_one]
  simpa [hz1, Value.cells] using h

/-- copy(b, s), where b has just the room -/
theorem copy_all (w : World) (s : ByteArray) (M : Array Value) (hM : M.size = s.size) : ∃ w2, (Builtin.copy_ #[110, 9] 3 #[.slice (some ⟨w.heap.size, 0, none⟩) s.size s.size, .string s]).run Tryz.prog (w.alloc (.cells M 5)) = .ok (goInt s.size) w2 ∧
    Blk w2 w.heap.size 5 (cellsOf (bs s)).toArray ∧ Below w.heap.size w w2 := by
  have h := Lib.run_copy_row_string (P := Tryz.prog) (w.alloc (.cells M 5)) 110 9 3 5 w.heap.size 0 s.size s.size s M 5 Tryz.underlying110 size8 (heap_alloc_new w _) (Nat.le_refl _) (by omega)
  have e : (M.toList.take 0 ++ Lib.byteCells s.data.toList ++ M.toList.drop (0 + s.size)) = cellsOf (bs s) := by
    rw [List.take_zero, List.nil_append, List.drop_of_length_le (by rw [Array.length_toList]; omega), List.append_nil]; rfl
  rw [e] at h
  refine ⟨_, h, setRow_heap _ _ M _ 5 (0, 0) (heap_alloc_new w _), ?_⟩
  exact ((Below.refl _ w).alloc (Nat.le_refl _) _).trans ⟨rfl, rfl, rfl, by simp, fun k hk => setRow_other _ _ _ _ (by omega)⟩

/-- a string over all of a row -/
theorem str_all (w : World) (g : Nat) (s : ByteArray) (h0 : s.size ≠ 0) (h63 : s.size ≤ 9223372036854775807) (hb : Blk w g 5 (cellsOf (bs s)).toArray) :
    (Builtin.unsafeString_ #[163, 3] 9 #[.pointer (some ⟨g, 0, none⟩), .int .i64 s.size]).run Tryz.prog w = .ok (.string s) (w.freeze ⟨g, 0, none⟩ s.size) := by
  have h := Lib.run_unsafeString_row (P := Tryz.prog) w 163 3 9 5 Tryz.underlying163 cells8 g (cellsOf (bs s)).length (by unfold World.shape?; rw [hb.heap]; simp) (bs s)
    (fun e => h0 (by rw [← bs_length, e]; rfl)) (by rw [cellsOf_length]; exact Nat.le_refl _) (by rw [bs_length]; exact h63)
    (fun j x hx => by rw [add_none, Nat.zero_add, hb.cell, List.getElem?_toArray]; exact cellsOf_get hx)
  have e : (⟨(bs s).toArray⟩ : ByteArray) = s := bs_inj rfl
  rw [e, bs_length] at h
  exact h

set_option maxRecDepth 100000 in
set_option maxHeartbeats 1000000 in
theorem cloneL_in (s : ByteArray) (w : World) (hs : s.size ≤ 281474976710656) :
    Calls Tryz.prog 119 #[.string s] w fun e w' => e = .returned (.string s) ∧ Below w.heap.size w w' := by
  by_cases h0 : s.size = 0
  · have e : s = ⟨#[]⟩ := bs_inj (bs_nil s h0)
    subst e
    go_enter Tryz.func119, Tryz.ntmps119
    go_wp2
    go_ret
    exact ⟨rfl, Below.refl _ _⟩
  · have hmk := make_any s.size hs
    have hMs : ((cellsOf (List.replicate s.size 0)).toArray).size = s.size := by simp [cellsOf]
    generalize (cellsOf (List.replicate s.size 0)).toArray = M at hmk hMs
    obtain ⟨w2, hcp, hb2, hbel⟩ := copy_all w s M hMs
    have hus := str_all w2 w.heap.size s h0 (by omega) hb2
    have HB := Lib.hid hbel
    clear hMs hb2
    go_enter Tryz.func119, Tryz.ntmps119
    go_wp2
    go_ret
    exact ⟨rfl, Lib.below_freeze HB.out (p := ⟨w.heap.size, 0, none⟩) (Nat.le_refl _) _⟩

theorem cloneL_any (s : ByteArray) (w : World) (hs : s.size ≤ 281474976710656) :
    Calls Tryz.prog 76 #[.string s] w fun e w' => e = .returned (.string s) ∧ Below w.heap.size w w' := by
  go_enter Tryz.func76, Tryz.ntmps76
  go_wp2_with (go_at_call 119; refine (cloneL_in _ _ hs).mono ?_; rintro e w' ⟨rfl, hb⟩)
  go_ret
  exact ⟨rfl, hb⟩
theorem clone_in (s : ByteArray) (w : World) (hs : s.size ≤ 140737488355328) :
    Calls Tryz.prog 119 #[.string s] w fun e w' => e = .returned (.string s) ∧ Below w.heap.size w w' := cloneL_in s w (by omega)
theorem clone_any (s : ByteArray) (w : World) (hs : s.size ≤ 140737488355328) :
    Calls Tryz.prog 76 #[.string s] w fun e w' => e = .returned (.string s) ∧ Below w.heap.size w w' := cloneL_any s w (by omega)
end Go.Proofs.YtlpondbcnfaggaaGreatDoor.Asc

/-
  Rows of strings, one at least, in a block: as strings.Split lays them, as make lays room for them, as they are filled from the front. No condition.
-/
namespace Go.Proofs.YtlpondbcnfaggaaGreatDoor.Nm
open Go.RowKit Go.Proofs.YtlpondbcnfaggaaGreatDoor.Wd Go.Proofs.YtlpondbcnfaggaaGreatDoor.Asc Go.Proofs.YtlpondbcnfaggaaGreatDoor.Ad

theorem infT : (Tryz.prog.info? 9).map (fun i => (i.zero, i.size, i.bytes)) = some (some (.string ⟨#[]⟩), 1, 16) := by kernel_rfl
abbrev strs (L : List (List UInt8)) : List Value := L.map fun l => Value.string (str l)
/-- the slice v leads to the strings L -/
def RowL (w : World) (v : Value) (L : List (List UInt8)) : Prop :=
  ∃ g c, v = .slice (some ⟨g, 0, none⟩) L.length c ∧ L.length ≤ c ∧ g < w.heap.size ∧ ∀ k l, L[k]? = some l → w.cell? ⟨g, k, none⟩ = some (.string (str l))
section
variable {w w' : World} {v : Value} {L : List (List UInt8)}
theorem RowL.below (h : RowL w v L) (hb : Below w.heap.size w w') : RowL w' v L := by
  obtain ⟨g, c, hv, hc, hg, hr⟩ := h
  exact ⟨g, c, hv, hc, Nat.lt_of_lt_of_le hg hb.size, fun k l hk => (hb.cell (p := ⟨g, k, none⟩) hg).trans (hr k l hk)⟩
theorem RowL.drew (h : RowL w v L) (n : Nat) : RowL (w.drewN n) v L := h
end
theorem strs_at {L : List (List UInt8)} {k : Nat} {l : List UInt8} (h : L[k]? = some l) : (strs L).toArray[k]? = some (.string (str l)) := by
  rw [List.getElem?_toArray, List.getElem?_map, h]
  rfl
theorem RowL.new (w : World) (L : List (List UInt8)) : RowL (w.alloc (.cells (strs L).toArray 9)) (.slice (some ⟨w.heap.size, 0, none⟩) L.length L.length) L :=
  ⟨_, _, rfl, Nat.le_refl _, by simp, fun k l hk => by rw [(Blk.new w 9 _).cell]; exact strs_at hk⟩

/-- make([]string, n) -/
theorem make_strs (n : Nat) (hn : n ≤ 4294967296) : ∃ C : Array Value, C.size = n ∧ ∀ u : World, (Instr.makeSlice 30 (.int .i64 (n : Int)) (.int .i64 (n : Int))).run Tryz.prog u =
    .ok (.slice (some ⟨u.heap.size, 0, none⟩) n n) (u.alloc (.cells C 9)) := by
  obtain ⟨i0, hi, hz0, hz1, hz2⟩ := info_parts infT
  refine ⟨madeCells (Value.string ⟨#[]⟩).cells (n * i0.size), by rw [hz1]; simp [madeCells], fun u => ?_⟩
  have h := run_make (P := Tryz.prog) u 30 9 i0 (.string ⟨#[]⟩) Tryz.underlying30 hi hz0 .i64 .i64 (n : Int) (n : Int) (by omega) (Int.le_refl _) (by rw [hz2]; omega) (by omega)
  rw [Int.toNat_natCast] at h
  exact h

theorem spl_len (c : UInt8) : ∀ l, (splitS c l).length ≤ l.length + 1
  | [] => by simp [splitS]
  | x :: l => by
    have ih := spl_len c l
    have hne := List.length_pos_iff.2 (splitS_ne c l)
    unfold splitS
    split
    · simp; omega
    · simp; omega
theorem spl_mem (c : UInt8) : ∀ (l p : List UInt8), p ∈ splitS c l → p.length ≤ l.length
  | [], p, h => by simp [splitS] at h; subst h; simp
  | x :: l, p, h => by
    have hne := splitS_ne c l
    have ih := spl_mem c l
    unfold splitS at h
    cases hs : splitS c l with
    | nil => exact absurd hs hne
    | cons q r =>
      rw [hs] at h ih
      split at h
      · rcases List.mem_cons.1 h with rfl | h
        · simp
        · have := ih p h; simp; omega
      · rcases List.mem_cons.1 h with rfl | h
        · have := ih q (by simp); simpa using this
        · have := ih p (List.mem_cons_of_mem _ (by simpa using h)); simp; omega

/-- strings.Split at a sign -/
theorem split_any {B : Nat} (s : ByteArray) (c : UInt8) (w : World) (hE : Env B w) (hs : s.size < 4294967281) :
    Calls Tryz.prog 124 #[.string s, .string ⟨#[c]⟩] w fun e w' => ∃ v, e = .returned v ∧ RowL w' v (splitS c (bs s)) ∧ Below w.heap.size w w' := by
  obtain ⟨m, hm⟩ := hE.max
  refine (Tryz.strings_Split s ⟨#[c]⟩ m w hs hm (Nat.le_refl 1)).mono ?_
  rintro e w' ⟨rfl, rfl⟩
  refine ⟨_, rfl, ?_, (Below.refl _ _).alloc (Nat.le_refl _) _⟩
  rw [split_count, split_cells]
  exact RowL.new w (splitS c (bs s))

/-- strings of L in the row's places, as far as k -/
structure Fill (w : World) (g n k : Nat) (L : List (List UInt8)) : Prop where
  at_ : ∃ cur, Blk w g 9 cur ∧ cur.size = n ∧ ∀ j l, j < k → L[j]? = some l → cur[j]? = some (.string (str l))
theorem Fill.below {w w' : World} {g n k : Nat} {L : List (List UInt8)} (h : Fill w g n k L) (hb : Below w.heap.size w w') : Fill w' g n k L := by
  obtain ⟨cur, h1, h2, h3⟩ := h.at_
  exact ⟨cur, h1.below hb h1.lt, h2, h3⟩
theorem Fill.next {w : World} {g n k : Nat} {L : List (List UInt8)} {l : List UInt8} (h : Fill w g n k L) (hk : k < n) (hl : L[k]? = some l) : Fill (w.setCell ⟨g, k, none⟩ (.string (str l))) g n (k + 1) L := by
  obtain ⟨cur, h1, h2, h3⟩ := h.at_
  refine ⟨_, h1.set_ k _, by simpa using h2, fun j x hj hx => ?_⟩
  rw [Array.getElem?_setIfInBounds]
  by_cases e : k = j
  · subst e
    rw [if_pos rfl, if_pos (by omega)]
    rw [hl] at hx
    injection hx with hx
    rw [hx]
  · rw [if_neg e]
    exact h3 j x (by omega) hx
theorem Fill.row {w : World} {g n : Nat} {L : List (List UInt8)} (h : Fill w g n n L) (hn : L.length = n) : RowL w (.slice (some ⟨g, 0, none⟩) n n) L := by
  obtain ⟨cur, h1, h2, h3⟩ := h.at_
  exact ⟨g, n, by rw [hn], by omega, h1.lt, fun k l hk => by rw [h1.cell]; exact h3 k l (by have := (List.getElem?_eq_some_iff.1 hk).1; omega) hk⟩
theorem rev_at {L : List (List UInt8)} {n k : Nat} (hn : L.length = n) (hk : k < n) : L[n - 1 - k]? = L.reverse[k]? := by
  rw [List.getElem?_reverse (by omega), hn]

set_option maxRecDepth 100000 in
set_option maxHeartbeats 4000000 in
/-- what stands between dots, the last one first -/
theorem backward_any {B : Nat} (s : ByteArray) (w : World) (hE : Env B w) (hs : s.size < 4294967281) :
    Calls Tryz.prog 90 #[.string s] w fun e w' => ∃ v, e = .returned v ∧ RowL w' v (splitS 46 (bs s)).reverse ∧ Below w.heap.size w w' := by
  have HS := Lib.hid (split_any (B := B) s 46 w hE hs)
  have hsz : ∀ p ∈ splitS 46 (bs s), p.length ≤ 140737488355328 := fun p hp => by
    have := spl_mem 46 (bs s) p hp
    rw [bs_length] at this
    omega
  have hle := spl_len 46 (bs s)
  rw [bs_length] at hle
  obtain ⟨L, hL⟩ : ∃ L, splitS 46 (bs s) = L := ⟨_, rfl⟩
  obtain ⟨n, hn⟩ : ∃ n, L.length = n := ⟨_, rfl⟩
  rw [hL] at HS hsz hle ⊢
  rw [hn] at hle
  obtain ⟨C, hC, hmk⟩ := make_strs n (by omega)
  have HZ := Lib.hid hsz
  have HN := Lib.hid hn
  have hn9 : n ≤ 4294967281 := by omega
  clear hL hsz hle hE hs
  go_enter Tryz.func90, Tryz.ntmps90
  go_wp2_with fail
  refine HS.out.mono ?_
  rintro e w1 ⟨v, rfl, hr, hb⟩
  obtain ⟨g, c, rfl, hc, hg, hcell⟩ := hr
  rw [HN.out]
  have HB := Lib.hid hb
  have HC := Lib.hid hcell
  have HF : Hid (Fill (w1.alloc (.cells C 9)) w1.heap.size n 0 L.reverse) := Lib.hid ⟨C, Blk.new w1 _ C, hC, fun j l hj => by omega⟩
  have hw1 : w.heap.size ≤ w1.heap.size := hb.size
  clear hb hcell hC HS hc
  go_wp2_with fail
  clear hmk
  obtain ⟨G, hG⟩ : ∃ G, w1.heap.size = G := ⟨_, rfl⟩
  have HB1 : Hid (Below G w1 (w1.alloc (.cells C 9))) := Lib.hid ((Below.refl _ _).alloc (by rw [hG]; exact Nat.le_refl _) _)
  rw [hG] at hg hw1 HF ⊢
  have HW := Lib.hid hw1
  clear hw1
  go_loopw [13] (fun i wr => ∃ k : Nat, k ≤ n ∧ i = .int .i64 (k : Int) ∧ Hid (Fill wr G n k L.reverse) ∧ Hid (Below G w1 wr)) (fun i _ => n - (intOf i).toNat)
  case atStart => exact ⟨0, Nat.zero_le _, rfl, HF, HB1⟩
  case round =>
    obtain ⟨k, hk, rfl, HFk, HBk⟩ := hrel
    by_cases hlt : k < n
    · obtain ⟨p, hp⟩ : ∃ p, L.reverse[k]? = some p := ⟨_, List.getElem?_eq_getElem (by rw [List.length_reverse, HN.out]; exact hlt)⟩
      have hq : L[n - 1 - k]? = some p := by rw [rev_at HN.out hlt]; exact hp
      have hz := HZ.out p (List.mem_of_getElem? hq)
      obtain ⟨P, hP⟩ : ∃ P, str p = P := ⟨_, rfl⟩
      have hPz : P.size ≤ 140737488355328 := by rw [← hP, str_size]; exact hz
      obtain ⟨m, hm⟩ : ∃ m, n - 1 - k = m := ⟨_, rfl⟩
      have hmi : (n : Int) - 1 - (k : Int) = (m : Int) := by omega
      have hml : m < n := by omega
      rw [hm] at hq
      have hcl : wr.cell? ⟨g, m, none⟩ = some (.string P) := by rw [HBk.out.cell (p := ⟨g, m, none⟩) hg, ← hP]; exact HC.out m p hq
      have HK := Lib.hid (fun u => clone_any P u hPz)
      have HP := Lib.hid hP
      have Hp := Lib.hid hp
      clear hq hz hP hPz hm hp
      go_wp2_with fail
      refine (HK.out _).mono ?_
      rintro e w2 ⟨rfl, hb2⟩
      have HF2 := Lib.hid (HFk.out.below hb2)
      have HB2 := Lib.hid (HBk.out.trans (hb2.mono (by have := HBk.out.size; have := hG; omega)))
      obtain ⟨cur, hblk, hcs, _⟩ := HF2.out.at_
      have hcl2 : ∃ u, w2.cell? ⟨G, k, none⟩ = some u := by rw [hblk.cell]; exact ⟨_, Array.getElem?_eq_getElem (by omega)⟩
      obtain ⟨u, hcu⟩ := hcl2
      have hfr := hblk.frozen k
      have HF3 := Lib.hid (HF2.out.next hlt Hp.out)
      have HB3 := Lib.hid (HB2.out.setCell (p := ⟨G, k, none⟩) (Nat.le_refl _) (.string (str p)))
      rw [HP.out] at HF3 HB3
      clear hb2 hblk hcl HK
      go_wp2_with fail
      go_roundw
      case rel => exact ⟨k + 1, hlt, by go_num, HF3, HB3⟩
      case measure => simp [intOf]; omega
    · obtain rfl : k = n := by omega
      go_wp2_with fail
      go_ret
      refine ⟨_, rfl, HFk.out.row (by rw [List.length_reverse, HN.out]), HB.out.trans (HBk.out.mono HW.out)⟩
end Go.Proofs.YtlpondbcnfaggaaGreatDoor.Nm
