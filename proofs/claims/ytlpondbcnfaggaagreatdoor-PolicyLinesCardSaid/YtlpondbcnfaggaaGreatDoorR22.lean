/-
  What the library's variables hold where a call begins, and what stands of it behind; strings.Cut, Count, HasPrefix and strconv.Itoa so (for seats without package addr).
-/
import Derived.Test.YtlpondbcnfaggaaGreatDoorR13
import Derived.Test.YtlpondbcnfaggaaGreatDoorR12
import Derived.Test.YtlpondbcnfaggaaGreatDoorShelf
import Derived.Lib.AppendIntMem
import Derived.Test.YtlpondbcnfaggaaGreatDoorR03
import Derived.Lib.Strings
import Derived.Laws.IdiomStrings
import Derived.Laws.Runes
import Derived.WalkMore
import Derived.Lib.OthersKept
import Derived.Lib.IndexAny
namespace Go.Proofs.YtlpondbcnfaggaaGreatDoor.Tx
open Go.RowKit Go.Proofs.YtlpondbcnfaggaaGreatDoor.Wd Go.Proofs.YtlpondbcnfaggaaGreatDoor.Asc

structure Env (B : Nat) (w : World) : Prop where
  max : ∃ m, w.cell? ⟨0, 0, none⟩ = some (.int .i64 m)
  tab : Lib.TabBelow Tryz.prog B w "internal/strconv.uint64pow10" .u64 Lib.pow10Tab
  low : 0 < B
  le : B ≤ w.heap.size
theorem Env.below {B : Nat} {w w' : World} (h : Env B w) (hb : Below B w w') : Env B w' where
  max := by
    obtain ⟨m, hm⟩ := h.max
    exact ⟨m, (hb.cell (p := ⟨0, 0, none⟩) h.low).trans hm⟩
  tab := h.tab.on hb
  low := h.low
  le := Nat.le_trans h.le hb.size
theorem Env.on {B : Nat} {w w' : World} (h : Env B w) (hb : Below w.heap.size w w') : Env B w' := h.below (hb.mono h.le)
theorem Env.fit {B : Nat} {w w' : World} (h : Env B w) {C : Nat} (hb : Below C w w') (hC : B ≤ C) : Env B w' := h.below (hb.mono hC)

theorem below_grow (B : Nat) (w : World) (q : Nat) (os : Array Obj) (hB : B ≤ w.heap.size) : Below B w (Sort.grow (w.drewN q) os) :=
  ⟨rfl, rfl, rfl, by first | (simp [Sort.grow]; done) | (simp [Sort.grow]; omega), fun i hi => by
    show ((w.drewN q).heap ++ os)[i]? = _
    rw [Array.getElem?_append_left (by show i < w.heap.size; omega)]
    rfl⟩
theorem below_drewN' (w : World) (n : Nat) : Below w.heap.size w (w.drewN n) := ⟨rfl, rfl, rfl, Nat.le_refl _, fun _ _ => rfl⟩
/-- strings.Cut at a sign that is there -/
theorem cut_yes {B : Nat} (a b : List UInt8) (c : UInt8) (S : ByteArray) (w : World) (hE : Env B w) (hS : str (a ++ c :: b) = S) (hl : S.size < 4294967281) (ha : c ∉ a) :
    Calls Tryz.prog 60 #[.string S, .string ⟨#[c]⟩] w fun e w' => e = .returned (.tuple #[.string (str a), .string (str b), .bool true]) ∧ Below w.heap.size w w' := by
  obtain ⟨m, hm⟩ := hE.max
  subst hS
  refine (Tryz.strings_Cut (str (a ++ c :: b)) (str [c]) m w hl hm).mono ?_
  rintro e w' ⟨he, n, rfl⟩
  have h : Lib.cut (str (a ++ c :: b)).data.toList (str [c]).data.toList = (a, b, true) := cut_at ha
  rw [h] at he
  exact ⟨he, below_drewN' w n⟩
/-- strings.Cut at a sign that is not there -/
theorem cut_not {B : Nat} (a : List UInt8) (c : UInt8) (S : ByteArray) (w : World) (hE : Env B w) (hS : str a = S) (hl : S.size < 4294967281) (ha : c ∉ a) :
    Calls Tryz.prog 60 #[.string S, .string ⟨#[c]⟩] w fun e w' => e = .returned (.tuple #[.string (str a), .string (str []), .bool false]) ∧ Below w.heap.size w w' := by
  obtain ⟨m, hm⟩ := hE.max
  subst hS
  refine (Tryz.strings_Cut (str a) (str [c]) m w hl hm).mono ?_
  rintro e w' ⟨he, n, rfl⟩
  have h : Lib.cut (str a).data.toList (str [c]).data.toList = (a, [], false) := cut_free ha
  rw [h] at he
  exact ⟨he, below_drewN' w n⟩
/-- strings.Count of one sign -/
theorem count_any (S : ByteArray) (c : UInt8) (w : World) :
    Calls Tryz.prog 183 #[.string S, .string ⟨#[c]⟩] w fun e w' => e = .returned (.int .i64 ((bs S).count c : Nat)) ∧ w = w' :=
  (Tryz.strings_Count_one S c w).mono fun _ _ ⟨h1, h2⟩ => ⟨h1, h2.symm⟩
theorem prefix_any (S p : ByteArray) (w : World) :
    Calls Tryz.prog 107 #[.string S, .string p] w fun e w' => e = .returned (.bool (Lib.hasPrefix (bs S) (bs p))) ∧ w = w' :=
  (Tryz.strings_HasPrefix S p w).mono fun _ _ ⟨h1, h2⟩ => ⟨h1, h2.symm⟩
theorem itoa_any {B : Nat} (n : Int) (h0 : -9223372036854775808 ≤ n) (h1 : n ≤ 9223372036854775807) (w : World) (hE : Env B w) :
    Calls Tryz.prog 110 #[.int .i64 n] w fun e w' => e = .returned (.string (str (Lib.itoa n))) ∧ Below w.heap.size w w' := by
  refine (Tryz.strconv_Itoa n h0 h1 w hE.tab.here).mono ?_
  rintro e w' ⟨he, k, os, rfl⟩
  exact ⟨he, below_grow _ w k os (Nat.le_refl _)⟩
end Go.Proofs.YtlpondbcnfaggaaGreatDoor.Tx

/-
  Contracts of package ascii's functions of one rune: isLetter, isDigit, isSign, isToken, isVisible, isBlank, digit.
-/
namespace Go.Proofs.YtlpondbcnfaggaaGreatDoor.Asc
open Go.RowKit Go.Proofs.YtlpondbcnfaggaaGreatDoor.Wd


theorem isVisible_any (r : Int) (w : World) : Calls Tryz.prog 114 #[.int .i32 r] w fun e w' => e = .returned (.bool (visI r)) ∧ w = w' := by
  by_cases a1 : 33 ≤ r <;> by_cases a2 : r ≤ 126
  all_goals first
    | (exfalso; omega)
    | (go_enter Tryz.func114, Tryz.ntmps114
       go_wp2
       go_ret
       exact ⟨ret_b (by simp [visI] <;> omega), rfl⟩)




end Go.Proofs.YtlpondbcnfaggaaGreatDoor.Asc

/-
  Contracts of package ascii's all, Token and Visible.
-/
namespace Go.Proofs.YtlpondbcnfaggaaGreatDoor.Asc
open Go.RowKit Go.Proofs.YtlpondbcnfaggaaGreatDoor.Wd

theorem allS_nil (p : Int → Bool) (s : ByteArray) (pos : Nat) (h : ¬ pos < s.size) (hle : pos ≤ s.size) (ht : ((bs s).take pos).all (fun c => p (c.toNat : Int)) = true) :
    (!s.toList.isEmpty) = allS p (bs s) := by
  have e : (bs s).take pos = bs s := List.take_of_length_le (by rw [bs_length]; omega)
  rw [e] at ht
  rw [allS, ht, Bool.and_true]
  rw [Lib.toList_data]
  rfl

theorem allS_no (p : Int → Bool) (s : ByteArray) (pos : Nat) (h : pos < s.size) (hc : p ((s[pos]'h).toNat : Int) = false) : allS p (bs s) = false := by
  rw [allS, Bool.and_eq_false_iff]
  right
  rw [List.all_eq_false]
  exact ⟨s[pos]'h, List.getElem_mem (by rw [bs_length]; exact h), by rw [hc]; simp⟩

theorem take_all (p : Int → Bool) (s : ByteArray) (pos : Nat) (h : pos < s.size) (ht : ((bs s).take pos).all (fun c => p (c.toNat : Int)) = true) (hc : p ((s[pos]'h).toNat : Int) = true) :
    ((bs s).take (pos + 1)).all (fun c => p (c.toNat : Int)) = true := by
  rw [bs_take s pos h, List.all_append, ht]
  simpa using hc

def AllIn (p : Int → Bool) (s : ByteArray) (w w' : World) : Prop := ∃ pos, w' = w.iter s pos ∧ pos ≤ s.size ∧ ((bs s).take pos).all (fun c => p (c.toNat : Int)) = true


set_option maxHeartbeats 1000000 in
theorem all_vis (s : ByteArray) (w : World) :
    Calls Tryz.prog 113 #[.string s, .func (.func 114) #[] #[]] w fun e w' => e = .returned (.bool (allS visI (bs s))) ∧ Below w.heap.size w w' := by
  go_enter Tryz.func113, Tryz.ntmps113
  go_wp2
  go_loopw [6] (fun _ w' => AllIn visI s w w') (fun _ w' => s.size - w'.iterPos w.heap.size)
  case atStart => exact ⟨0, rfl, Nat.zero_le _, rfl⟩
  case round =>
    obtain ⟨pos, rfl, hle, ht⟩ := hrel
    have HT := Lib.hid ht
    clear ht
    by_cases hp : pos < s.size
    · obtain ⟨hr, h1⟩ := at_rune vis_low s pos hp
      have hnx : ∀ ty, (Instr.next (.pointer (some ⟨w.heap.size, 0, none⟩)) true ty).run Tryz.prog (w.iter s pos) = _ := fun ty => run_next_any w s pos ty hp
      cases hc : visI ((s[pos]'hp).toNat : Int)
      · have HC := Lib.hid hc
        rw [hc] at hr
        have HR := Lib.hid hr
        clear hr hc h1
        go_wp2_with (go_at_call 114; refine (isVisible_any _ _).mono ?_; rintro e w' ⟨rfl, rfl⟩; rw [HR.out])
        go_ret
        exact ⟨ret_b (allS_no visI s pos hp HC.out).symm, below_iter _ _ _⟩
      · have h1' := h1 hc
        rw [h1'] at hnx
        have HC := Lib.hid hc
        rw [hc] at hr
        have HR := Lib.hid hr
        clear hr hc h1 h1'
        go_wp2_with (go_at_call 114; refine (isVisible_any _ _).mono ?_; rintro e w' ⟨rfl, rfl⟩; rw [HR.out])
        go_roundw
        case rel => exact ⟨pos + 1, rfl, hp, take_all visI s pos hp HT.out HC.out⟩
        case measure => simp; omega
    · have hnx := fun ty => run_next_end (P := Tryz.prog) w s pos ty hp
      go_wp2
      go_ret
      exact ⟨ret_b (allS_nil visI s pos hp hle HT.out), below_iter _ _ _⟩

theorem visible_any (s : ByteArray) (w : World) :
    Calls Tryz.prog 72 #[.string s] w fun e w' => e = .returned (.bool (allS visI (bs s))) ∧ Below w.heap.size w w' := by
  go_enter Tryz.func72, Tryz.ntmps72
  go_wp2_with (go_at_call 113; refine (all_vis _ _).mono ?_; rintro e w' ⟨rfl, hb⟩)
  go_ret
  exact ⟨rfl, hb⟩
end Go.Proofs.YtlpondbcnfaggaaGreatDoor.Asc

/-
  Words for memory: a block whose cells begin with known bytes, none of them frozen (what '[]byte(s)' lays), and a range over a string beside it. Plain lemmas, no condition.
-/
namespace Go.Proofs.YtlpondbcnfaggaaGreatDoor.Asc
open Go.RowKit Go.Proofs.YtlpondbcnfaggaaGreatDoor.Wd

def Row (w : World) (g : Nat) (l : List UInt8) : Prop :=
  ∃ cs fr, w.heap[g]? = some (.cells cs 5 fr) ∧ cs.size ≤ fr.1 ∧ l.length ≤ cs.size ∧ ∀ (j : Nat) (c : UInt8), l[j]? = some c → cs[j]? = some (b8 c)
section
variable {w w' : World} {g : Nat} {l : List UInt8}
theorem Row.lt (h : Row w g l) : g < w.heap.size := by
  obtain ⟨cs, fr, h, _⟩ := h
  rcases Nat.lt_or_ge g w.heap.size with hlt | hge
  · exact hlt
  · rw [Array.getElem?_eq_none hge] at h; cases h
theorem Row.cell (h : Row w g l) {j : Nat} {c : UInt8} (hj : l[j]? = some c) : w.cell? ⟨g, j, none⟩ = some (b8 c) := by
  obtain ⟨cs, fr, h, _, _, hc⟩ := h
  rw [cell_of_row w g j cs _ fr h]
  exact hc j c hj
theorem Row.frozen (h : Row w g l) {j : Nat} (hj : j < l.length) : w.frozen? ⟨g, j, none⟩ = false := by
  obtain ⟨cs, fr, h, h1, h2, _⟩ := h
  simp only [World.frozen?, h]
  simp
  omega
theorem Row.of_heap (h : Row w g l) (e : w'.heap[g]? = w.heap[g]?) : Row w' g l := by
  obtain ⟨cs, fr, h, r⟩ := h
  exact ⟨cs, fr, e.trans h, r⟩
theorem Row.alloc (h : Row w g l) (o : Obj) : Row (w.alloc o) g l := h.of_heap (Below.heap_alloc w o g h.lt)
theorem Row.below {B : Nat} (h : Row w g l) (hb : Below B w w') (hg : g < B) : Row w' g l := h.of_heap (hb.block g hg)
theorem Row.set_ (h : Row w g l) (i : Nat) (u : UInt8) : Row (w.setCell ⟨g, i, none⟩ (b8 u)) g (l.set i u) := by
  obtain ⟨cs, fr, h, h1, h2, hc⟩ := h
  refine ⟨cs.setIfInBounds i (b8 u), fr, by simp [World.setCell, Array.getElem?_modify, h], by simpa using h1, by simpa using h2, fun j c hj => ?_⟩
  rw [List.getElem?_set] at hj
  rw [Array.getElem?_setIfInBounds]
  split at hj
  · rename_i e
    subst e
    split at hj
    · rename_i hl
      injection hj with hj
      subst hj
      rw [if_pos rfl, if_pos (by omega)]
    · cases hj
  · rename_i e
    rw [if_neg e]
    exact hc j c hj
theorem Row.src (h : Row w g l) : Src w (some ⟨g, 0, none⟩) l.length l :=
  ⟨rfl, fun _ => ⟨_, rfl, h.lt, fun j c hj => by rw [add_none, Nat.zero_add]; exact h.cell hj⟩⟩
end

/-- []byte(s) -/
theorem bytes_of (w : World) (s : ByteArray) : ∃ c w0, (convert 9 110 (.string s)).run Tryz.prog w = .ok (.slice (some ⟨w.heap.size, 0, none⟩) s.size c) w0 ∧
    w0.heap.size = w.heap.size + 1 ∧ Row w0 w.heap.size (bs s) ∧ Below w.heap.size w w0 ∧ s.size ≤ c := by
  refine ⟨_, _, run_bytes_of_string w 9 110 5 s Tryz.underlying9 Tryz.underlying110 Tryz.underlying5, by simp, ?_, ((Below.refl _ _).drew).alloc (Nat.le_refl _) _, grownCap_ge _ _ _ _⟩
  refine ⟨_, _, heap_alloc_new w.drew _, Nat.le_refl _, ?_, fun j c hj => ?_⟩
  · rw [bs_length]
    simp only [bytesRow, Array.size_append, Array.size_map]
    exact Nat.le_add_right _ _
  · have hlt : j < s.data.size := by
      have := (List.getElem?_eq_some_iff.1 hj).1
      simpa [bs] using this
    rw [bytesRow_at s _ j hlt]
    have : s.data[j] = c := by
      have h2 := (List.getElem?_eq_some_iff.1 hj).2
      simpa [bs] using h2
    rw [this]
    rfl

theorem iter_setCell (w : World) (s : ByteArray) (pos : Nat) (p : Addr) (v : Value) (hp : p.block < w.heap.size) : (w.iter s pos).setCell p v = (w.setCell p v).iter s pos := by
  simp only [World.iter, World.alloc, World.setCell]
  congr 1
  apply Array.ext_getElem?
  intro i
  simp only [Array.getElem?_modify, Array.getElem?_push, Array.size_modify]
  by_cases h1 : i = w.heap.size
  · subst h1
    rw [if_pos rfl, if_pos rfl, if_neg (by omega)]
  · rw [if_neg h1, if_neg h1]
theorem iterPos_of {w1 : World} {N : Nat} (h : w1.heap.size = N) (s : ByteArray) (p : Nat) : (w1.iter s p).iterPos N = p := by subst h; simp
theorem size_set (w : World) (p : Addr) (v : Value) : (w.setCell p v).heap.size = w.heap.size := by simp [World.setCell]

/-- small up to k -/
def lowPre (l : List UInt8) (k : Nat) : List UInt8 := (l.take k).map lowB ++ l.drop k
theorem lowPre_length (l : List UInt8) (k : Nat) : (lowPre l k).length = l.length := by
  simp only [lowPre, List.length_append, List.length_map, List.length_take, List.length_drop]; omega
theorem lowPre_at (l : List UInt8) (k : Nat) (h : k < l.length) : (lowPre l k)[k]? = some l[k] := by
  rw [lowPre, List.getElem?_append_right (by simp; omega)]
  simp only [List.length_map, List.length_take, Nat.min_eq_left (Nat.le_of_lt h), Nat.sub_self, List.getElem?_drop, Nat.add_zero]
  exact List.getElem?_eq_getElem h
theorem lowPre_next (l : List UInt8) (k : Nat) (h : k < l.length) : lowPre l (k + 1) = (lowPre l k).set k (lowB l[k]) := by
  have hl : ((l.take k).map lowB).length = k := by simp; omega
  rw [lowPre, lowPre, List.take_succ_eq_append_getElem h, List.map_append, List.set_append, if_neg (by omega), hl, Nat.sub_self, List.drop_eq_getElem_cons h, List.set_cons_zero, List.append_assoc]
  rfl
theorem lowPre_same (l : List UInt8) (k : Nat) (h : k < l.length) (hc : lowB l[k] = l[k]) : lowPre l (k + 1) = lowPre l k := by
  rw [lowPre_next l k h, hc]
  have e := lowPre_at l k h
  apply List.ext_getElem?
  intro i
  rw [List.getElem?_set]
  split
  · rename_i hi
    subst hi
    rw [e, if_pos (by rw [lowPre_length]; exact h)]
  · rfl
theorem lowPre_skip (l : List UInt8) (k : Nat) : ∀ d, k + d ≤ l.length → (∀ j (h : j < l.length), k ≤ j → j < k + d → lowB l[j] = l[j]) → lowPre l (k + d) = lowPre l k
  | 0, _, _ => rfl
  | d + 1, h, hc => by
    rw [← Nat.add_assoc, lowPre_same l (k + d) (by omega) (hc _ _ (by omega) (by omega))]
    exact lowPre_skip l k d (by omega) (fun j hj h1 h2 => hc j hj h1 (by omega))
theorem lowPre_all (l : List UInt8) (k : Nat) (h : l.length ≤ k) : lowPre l k = l.map lowB := by
  rw [lowPre, List.take_of_length_le h, List.drop_of_length_le h, List.append_nil]
theorem lowB_high (c : UInt8) (h : ¬ (65 ≤ c.toNat ∧ c.toNat ≤ 90)) : lowB c = c := by
  rw [lowB, if_neg]
  rintro ⟨h1, h2⟩
  rw [UInt8.le_iff_toNat_le] at h1 h2
  exact h ⟨h1, h2⟩
theorem lowB_great (c : UInt8) (h1 : 65 ≤ c.toNat) (h2 : c.toNat ≤ 90) : (lowB c).toNat = c.toNat + 32 := by
  rw [lowB, if_pos ⟨by rw [UInt8.le_iff_toNat_le]; exact h1, by rw [UInt8.le_iff_toNat_le]; exact h2⟩]
  rw [UInt8.toNat_add]
  show (c.toNat + 32) % 256 = _
  omega
def lowS (s : ByteArray) : ByteArray := ⟨((bs s).map lowB).toArray⟩
theorem bs_low (s : ByteArray) : bs (lowS s) = (bs s).map lowB := rfl
theorem low_size (s : ByteArray) : (lowS s).size = s.size := by rw [← bs_length, bs_low, List.length_map, bs_length]
end Go.Proofs.YtlpondbcnfaggaaGreatDoor.Asc

/-
  Contracts of package ascii's Lower and Same.
-/
namespace Go.Proofs.YtlpondbcnfaggaaGreatDoor.Asc
open Go.RowKit Go.Proofs.YtlpondbcnfaggaaGreatDoor.Wd

def LowIn (s : ByteArray) (w : World) (N : Nat) (w' : World) : Prop :=
  ∃ pos w1, w' = w1.iter s pos ∧ w1.heap.size = N ∧ Row w1 w.heap.size (lowPre (bs s) pos) ∧ pos ≤ s.size ∧ Below w.heap.size w w1

theorem conv {w : World} {A : Option Addr} {n c : Nat} {xs : List UInt8} (h : Src w A n xs) : (convert 110 9 (.slice A n c)).run Tryz.prog w = .ok (.string ⟨xs.toArray⟩) w :=
  conv_src h Tryz.underlying110 Tryz.underlying5 Tryz.underlying9

set_option maxHeartbeats 1000000 in
theorem lower_any (s : ByteArray) (w : World) :
    Calls Tryz.prog 50 #[.string s] w fun e w' => e = .returned (.string (lowS s)) ∧ Below w.heap.size w w' := by
  obtain ⟨cap, w0, hcv, hsz, hrow, hbel, hcap⟩ := bytes_of w s
  have HZ := Lib.hid hsz
  have hgN : w.heap.size < w0.heap.size := by omega
  clear hsz
  go_enter Tryz.func50, Tryz.ntmps50
  go_wp2
  clear hcv
  go_loopw [4] (fun _ w' => LowIn s w w0.heap.size w') (fun _ w' => s.size - w'.iterPos w0.heap.size)
  case atStart => exact ⟨0, w0, rfl, rfl, hrow, Nat.zero_le _, hbel⟩
  case round =>
    obtain ⟨pos, w1, rfl, hz1, hrow1, hle, hbel1⟩ := hrel
    have HZ1 := Lib.hid hz1
    clear hz1
    by_cases hp : pos < s.size
    · by_cases ha : (s[pos]'hp).toNat < 128
      · have hnx : ∀ ty, (Instr.next (.pointer (some ⟨w0.heap.size, 0, none⟩)) true ty).run Tryz.prog (w1.iter s pos) = .ok (.tuple #[.bool true, .int .i64 pos, .int .i32 (s[pos]'hp).toNat]) (w1.iter s (pos + 1)) := fun ty => by
          have := run_next_ascii (P := Tryz.prog) w1 s pos ty hp ha
          rw [HZ1.out] at this; exact this
        by_cases hc : 65 ≤ (s[pos]'hp).toNat ∧ (s[pos]'hp).toNat ≤ 90
        · obtain ⟨hc1, hc2⟩ := hc
          have hi1 : (65 : Int) ≤ ((s[pos]'hp).toNat : Int) := by omega
          have hi2 : ((s[pos]'hp).toNat : Int) ≤ 90 := by omega
          have hcell : (w1.iter s (pos + 1)).cell? ⟨w.heap.size, pos, none⟩ = some (.int .u8 ((s[pos]'hp).toNat : Int)) := (hrow1.alloc _).cell (lowPre_at (bs s) pos hp)
          have hfr : (w1.iter s (pos + 1)).frozen? ⟨w.heap.size, pos, none⟩ = false := (hrow1.alloc _).frozen (by rw [lowPre_length]; exact hp)
          go_wp2
          go_roundw
          case rel =>
            refine ⟨pos + 1, w1.setCell ⟨w.heap.size, pos, none⟩ (b8 (lowB (s[pos]'hp))), ?_, by rw [size_set]; exact HZ1.out, ?_, hp, hbel1.setCell (Nat.le_refl _) _⟩
            · rw [← iter_setCell w1 s (pos + 1) _ _ hrow1.lt, b8, lowB_great _ hc1 hc2]
              rfl
            · rw [lowPre_next (bs s) pos hp]
              exact hrow1.set_ pos _
          case measure =>
            rw [iter_setCell _ _ _ _ _ hrow1.lt, iterPos_of (by rw [size_set]; exact HZ1.out), iterPos_of HZ1.out]
            omega
        · have hsame := Lib.hid (lowPre_same (bs s) pos hp (lowB_high _ hc))
          by_cases hc1 : 65 ≤ (s[pos]'hp).toNat
          · have hi1 : (65 : Int) ≤ ((s[pos]'hp).toNat : Int) := by omega
            have hi2 : ¬ ((s[pos]'hp).toNat : Int) ≤ 90 := by omega
            clear hc
            go_wp2
            go_roundw
            case rel => exact ⟨pos + 1, w1, rfl, HZ1.out, by rw [hsame.out]; exact hrow1, hp, hbel1⟩
            case measure => rw [iterPos_of HZ1.out, iterPos_of HZ1.out]; omega
          · have hi1 : ¬ (65 : Int) ≤ ((s[pos]'hp).toNat : Int) := by omega
            clear hc
            go_wp2
            go_roundw
            case rel => exact ⟨pos + 1, w1, rfl, HZ1.out, by rw [hsame.out]; exact hrow1, hp, hbel1⟩
            case measure => rw [iterPos_of HZ1.out, iterPos_of HZ1.out]; omega
      · have hnx : ∀ ty, (Instr.next (.pointer (some ⟨w0.heap.size, 0, none⟩)) true ty).run Tryz.prog (w1.iter s pos) = .ok (.tuple #[.bool true, .int .i64 pos, .int .i32 (Utf8.decode s pos).1]) (w1.iter s (pos + (Utf8.decode s pos).2)) := fun ty => by
          have := run_next_any (P := Tryz.prog) w1 s pos ty hp
          rw [HZ1.out] at this; exact this
        obtain ⟨hd1, hd2⟩ := decode_high s pos hp (by omega)
        obtain ⟨hw1, hw2⟩ := wide_high s pos hp (by omega)
        have hsame := Lib.hid (lowPre_skip (bs s) pos (Utf8.decode s pos).2 (by rw [bs_length]; exact hw1) (fun j hj h1 h2 => lowB_high _ (by
          have h3 := hw2 (j - pos) (by omega)
          rw [show pos + (j - pos) = j by omega, get_eq s j hj] at h3
          show ¬ (65 ≤ (s[j]'hj).toNat ∧ (s[j]'hj).toNat ≤ 90)
          omega)))
        have hi1 : (65 : Int) ≤ ((Utf8.decode s pos).1 : Int) := by omega
        have hi2 : ¬ ((Utf8.decode s pos).1 : Int) ≤ 90 := by omega
        clear hw2
        go_wp2
        go_roundw
        case rel => exact ⟨_, w1, rfl, HZ1.out, by rw [hsame.out]; exact hrow1, hw1, hbel1⟩
        case measure => rw [iterPos_of HZ1.out, iterPos_of HZ1.out]; omega
    · have hnx : ∀ ty, (Instr.next (.pointer (some ⟨w0.heap.size, 0, none⟩)) true ty).run Tryz.prog (w1.iter s pos) = .ok (.tuple #[.bool false]) (w1.iter s pos) := fun ty => by
        have := run_next_end (P := Tryz.prog) w1 s pos ty hp
        rw [HZ1.out] at this; exact this
      have kc : (convert 110 9 (.slice (some ⟨w.heap.size, 0, none⟩) s.size cap)).run Tryz.prog (w1.iter s pos) = .ok (.string (lowS s)) (w1.iter s pos) := by
        have h := conv (c := cap) ((hrow1.alloc (.stringIter s pos)).src)
        rw [lowPre_length, bs_length, lowPre_all _ _ (by rw [bs_length]; omega)] at h
        exact h
      go_wp2
      go_ret
      exact ⟨rfl, hbel1.alloc hbel1.size _⟩

def sameS (a b : ByteArray) : Bool := (bs a).map lowB == (bs b).map lowB
end Go.Proofs.YtlpondbcnfaggaaGreatDoor.Asc

/-
  Contracts of hagioscoperef02's lower, Lower, token and Token for the seats of later layers: what they answer is what the contracts of package ascii say.
-/
namespace Go.Proofs.YtlpondbcnfaggaaGreatDoor.Asc
open Go.RowKit Go.Proofs.YtlpondbcnfaggaaGreatDoor.Wd

theorem bs_add (a b : ByteArray) : bs (a ++ b) = bs a ++ bs b := by simp [bs, ByteArray.data_append]
theorem bs_extract (s : ByteArray) (a t : Nat) : bs (s.extract a t) = ((bs s).drop a).take (t - a) := by
  simp [bs, ByteArray.data_extract, Array.toList_extract, List.extract_eq_take_drop]

theorem empty_of (a : ByteArray) (h : a.size = 0) : a = ⟨#[]⟩ := bs_inj (bs_nil a h)
theorem ret_s {a b : ByteArray} (h : a = b) : Ending.returned (.string a) = .returned (.string b) := by rw [h]
theorem ret_u8 {a b : Int} (h : a = b) : Ending.returned (.int .u8 a) = .returned (.int .u8 b) := by rw [h]

theorem rlower_any (c : UInt8) (w : World) : Calls Tryz.prog 176 #[.int .u8 (c.toNat : Int)] w fun e w' => e = .returned (.int .u8 ((lowB c).toNat : Int)) ∧ w = w' := by
  have hlt := c.toNat_lt
  by_cases a1 : 65 ≤ c.toNat
  · have i1 : (65 : Int) ≤ (c.toNat : Int) := by omega
    by_cases a2 : c.toNat ≤ 90
    · have i2 : (c.toNat : Int) ≤ 90 := by omega
      have H := Lib.hid (lowB_great c a1 a2)
      go_enter Tryz.func176, Tryz.ntmps176
      go_wp2
      go_ret
      exact ⟨ret_u8 (by rw [H.out]; omega), rfl⟩
    · have i2 : ¬ (c.toNat : Int) ≤ 90 := by omega
      have H := Lib.hid (lowB_high c (by omega))
      go_enter Tryz.func176, Tryz.ntmps176
      go_wp2
      go_ret
      exact ⟨ret_u8 (by rw [H.out]), rfl⟩
  · have i1 : ¬ (65 : Int) ≤ (c.toNat : Int) := by omega
    have H := Lib.hid (lowB_high c (by omega))
    go_enter Tryz.func176, Tryz.ntmps176
    go_wp2
    go_ret
    exact ⟨ret_u8 (by rw [H.out]), rfl⟩

def LowAt (s : ByteArray) (w : World) (x : Value) (w' : World) : Prop :=
  ∃ (k : Nat) (w1 : World), w1 = w' ∧ x = .int .i64 k ∧ k ≤ s.size ∧ Row w1 w.heap.size (lowPre (bs s) k) ∧ Below w.heap.size w w1

set_option maxHeartbeats 2000000 in
theorem rlowers_any (s : ByteArray) (w : World) (hs : s.size ≤ 140737488355328) :
    Calls Tryz.prog 153 #[.string s] w fun e w' => e = .returned (.string (lowS s)) ∧ Below w.heap.size w w' := by
  obtain ⟨cap, w0, hcv, hsz, hrow, hbel, hcap⟩ := bytes_of w s
  clear hsz
  go_enter Tryz.func153, Tryz.ntmps153
  go_wp2
  clear hcv
  go_loopw [4] (fun x w' => LowAt s w x w') (fun x _ => s.size - (intOf x).toNat)
  case atStart => exact ⟨0, _, rfl, rfl, Nat.zero_le _, hrow, hbel⟩
  case round =>
    obtain ⟨k, w1, rfl, rfl, hle, hrow1, hbel1⟩ := hrel
    by_cases hp : k < s.size
    · have hcell : w1.cell? ⟨w.heap.size, k, none⟩ = some (.int .u8 ((s[k]'hp).toNat : Int)) := hrow1.cell (lowPre_at (bs s) k hp)
      have hfr : w1.frozen? ⟨w.heap.size, k, none⟩ = false := hrow1.frozen (by rw [lowPre_length]; exact hp)
      go_wp2_with (go_at_call 176; refine (rlower_any _ _).mono ?_; rintro e w' ⟨rfl, rfl⟩)
      go_roundw
      case rel => exact ⟨k + 1, _, rfl, by go_num, hp, by rw [lowPre_next (bs s) k hp]; exact hrow1.set_ k _, hbel1.setCell (Nat.le_refl _) _⟩
      case measure => simp [intOf]; omega
    · have kc : (convert 110 9 (.slice (some ⟨w.heap.size, 0, none⟩) s.size cap)).run Tryz.prog w1 = .ok (.string (lowS s)) w1 := by
        have h := conv (c := cap) hrow1.src
        rw [lowPre_length, bs_length, lowPre_all _ _ (by rw [bs_length]; omega)] at h
        exact h
      go_wp2
      go_ret
      exact ⟨rfl, hbel1⟩
theorem ltr_of_low (c : UInt8) : ltrI (c.toNat : Int) = decide (97 ≤ ((lowB c).toNat : Int) ∧ ((lowB c).toNat : Int) ≤ 122) := by
  rw [ltrI]
  by_cases h : 65 ≤ c.toNat ∧ c.toNat ≤ 90
  · rw [lowB_great c h.1 h.2]
    rw [Bool.eq_iff_iff]; simp only [decide_eq_true_eq]; omega
  · rw [lowB_high c h]
    rw [Bool.eq_iff_iff]; simp only [decide_eq_true_eq]; omega

def signs : List UInt8 := [33, 35, 36, 37, 38, 39, 42, 43, 45, 46, 94, 95, 96, 124, 126]
set_option maxRecDepth 100000 in
theorem sgn_all : ∀ c : Fin 256, sgnI (c.1 : Int) = signs.any (fun x => x.toNat == c.1) := by decide
theorem sgn_is (c : UInt8) : sgnI (c.toNat : Int) = signs.any (fun x => x.toNat == c.toNat) := sgn_all ⟨c.toNat, c.toNat_lt⟩

theorem kc96 (w : World) : (convert 110 9 (.slice (some ⟨w.heap.size, 0, none⟩) 1 1)).run Tryz.prog (w.alloc (.cells #[.int .u8 96] 5)) = .ok (.string ⟨#[96]⟩) (w.alloc (.cells #[.int .u8 96] 5)) :=
  conv (c := 1) (Src.of_blk (off := 0) (xs := [96]) (Blk.new w 5 #[.int .u8 96]) (fun j c hj => by
    cases j with
    | zero => simp at hj; subst hj; rfl
    | succ j => simp at hj))

theorem bs_signs : bs ((⟨#[33, 35, 36, 37, 38, 39, 42, 43, 45, 46, 94, 95]⟩ : ByteArray) ++ ⟨#[96]⟩ ++ ⟨#[124, 126]⟩) = signs := by
  rw [bs_add, bs_add]; rfl
theorem any_next (p : UInt8 → Bool) (s : ByteArray) (k : Nat) (h : k < s.size) (h1 : ((bs s).take k).any p = false) (h2 : p (s[k]'h) = false) : ((bs s).take (k + 1)).any p = false := by
  rw [bs_take s k h, List.any_append, h1]; simpa using h2
theorem any_yes (p : UInt8 → Bool) (s : ByteArray) (k : Nat) (h : k < s.size) (h2 : p (s[k]'h) = true) : (bs s).any p = true :=
  List.any_eq_true.2 ⟨s[k]'h, List.getElem_mem (by rw [bs_length]; exact h), h2⟩

def SgIn (c : UInt8) (sg : ByteArray) (x : Value) : Prop := ∃ k : Nat, x = .int .i64 k ∧ k ≤ sg.size ∧ ((bs sg).take k).any (fun y => y.toNat == c.toNat) = false



def TokIn (s : ByteArray) (w : World) (x : Value) (w' : World) : Prop :=
  ∃ (k : Nat) (w1 : World), w1 = w' ∧ x = .int .i64 k ∧ k ≤ s.size ∧ ((bs s).take k).all (fun c => tokI (c.toNat : Int)) = true ∧ Below w.heap.size w w1

end Go.Proofs.YtlpondbcnfaggaaGreatDoor.Asc

/-
  strings.IndexAny over this seat's translation, for a string of whatever bytes, and two signs of ASCII or more: the library's own contract asks for ASCII in both.
-/
namespace Go.Proofs.YtlpondbcnfaggaaGreatDoor.Tx
open Go.RowKit Go.Proofs.YtlpondbcnfaggaaGreatDoor.Wd Go.Proofs.YtlpondbcnfaggaaGreatDoor.Asc Go.Lib

/-- a callee that leaves the world alone, in a region that has drawn before -/
theorem quietR {P : Program} {f : FuncId} {args : Array Value} {w : World} {q n : Nat} {v : Value} (h : Calls P f args (w.drewN (q + n)) fun e w' => e = .returned v ∧ w' = w.drewN (q + n)) :
    Calls P f args (w.drewN (q + n)) fun e w'' => e = .returned v ∧ ∃ m, w'' = w.drewN (q + m) := h.mono fun _ _ ⟨he, hm⟩ => ⟨he, n, hm⟩
def Asci (l : List UInt8) : Prop := ∀ c ∈ l, c.toNat < 128
/-- no byte past ASCII is found among signs of ASCII -/
theorem ib_wide {l : List UInt8} (h : Asci l) {c : UInt8} (hc : 128 ≤ c.toNat) : Lib.indexByte l c = -1 := ib_free (fun hm => by have := h c hm; omega)
theorem asci_cut {s : ByteArray} (h : Asci (bs s)) (a t : Nat) : Asci (bs (s.extract a t)) := fun c hc => by
  rw [bs_extract] at hc
  exact h c (List.mem_of_mem_drop (List.mem_of_mem_take hc))

set_option maxRecDepth 100000 in
set_option maxHeartbeats 4000000 in
/-- the wrong rune -/
theorem irune_err (s : ByteArray) (hs : Asci (bs s)) (w : World) :
    Calls Tryz.prog 158 #[.string s, .int .i32 65533] w fun e w' => e = .returned (.int .i64 (-1)) ∧ Below w.heap.size w w' := by
  have HS := Lib.hid hs
  clear hs
  go_enter Tryz.func158, Tryz.ntmps158
  go_wp2
  go_loopw [5, 6] (fun _ _ w' => ∃ pos, w' = w.iter s pos ∧ pos ≤ s.size) (fun _ _ w' => s.size - w'.iterPos w.heap.size)
  case atStart => exact ⟨0, rfl, Nat.zero_le _⟩
  case round =>
    obtain ⟨pos, rfl, hle⟩ := hrel
    by_cases hp : pos < s.size
    · have ha : (s[pos]'hp).toNat < 128 := HS.out _ (by rw [← bs_get s pos hp]; exact List.getElem_mem _)
      have hnx : ∀ ty, (Instr.next (.pointer (some ⟨w.heap.size, 0, none⟩)) true ty).run Tryz.prog (w.iter s pos) = _ := fun ty => run_next_ascii (P := Tryz.prog) w s pos ty hp ha
      have hb : ((((s[pos]'hp).toNat : Nat) : Int) == 65533) = false := by rw [beq_eq_false_iff_ne]; omega
      go_wp2
      go_roundw
      case rel => exact ⟨pos + 1, rfl, hp⟩
      case measure => simp; omega
    · have hnx := fun ty => run_next_end (P := Tryz.prog) w s pos ty hp
      go_wp2
      go_ret
      exact ⟨rfl, below_iter _ _ _⟩

set_option maxRecDepth 100000 in
set_option maxHeartbeats 8000000 in
/-- a rune past ASCII -/
theorem irune_wide (s : ByteArray) (hs : Asci (bs s)) (r : Int) (h : 128 ≤ r) (w : World) :
    Calls Tryz.prog 158 #[.string s, .int .i32 r] w fun e w' => e = .returned (.int .i64 (-1)) ∧ Below w.heap.size w w' := by
  by_cases he : r = 65533
  · subst he; exact irune_err s hs w
  have hb1 : (r == 65533) = false := by simpa using he
  have i1 : (0 : Int) ≤ r := by omega
  have i2 : ¬ r < 128 := by omega
  cases hv : Lib.validRune r with
  | false =>
    have HV := Lib.hid hv
    clear hv
    go_enter Tryz.func158, Tryz.ntmps158
    go_wp2_with (go_at_call 185; refine (Tryz.utf8_ValidRune _ _).mono ?_; rintro e w1 ⟨rfl, hw⟩; rw [hw, HV.out])
    go_ret
    exact ⟨rfl, Below.refl _ _⟩
  | true =>
    have hv2 : Utf8.valid r = true := by rw [validRune_eq]; exact hv
    obtain ⟨f1, f2, f3⟩ := encode_facts r hv2 h
    have hcv : ∀ w', (convert 21 9 (.int .i32 r)).run Tryz.prog w' = .ok (.string (Utf8.encode r)) w' := fun w' => run_convert_int_string w' 21 9 .i32 r (by kernel_rfl) Tryz.underlying9
    generalize Utf8.encode r = R at *
    have HV := Lib.hid hv
    have HS := Lib.hid hs
    clear hv hv2 hs he
    obtain ⟨n, hn⟩ : ∃ n, R.size = n + 1 := ⟨R.size - 1, by omega⟩
    have hlt : n < R.size := by omega
    have hi : (R.size : Int) - 1 = (n : Int) := by omega
    have hR : 128 ≤ (R[n]'hlt).toNat := by
      have := f3 (by omega)
      have e : R.size - 1 = n := by omega
      simpa only [e] using this
    have hn3 : n ≤ 3 := by omega
    have HR := Lib.hid hR
    clear f1 f2 f3 hn hR
    go_enter Tryz.func158, Tryz.ntmps158
    go_wp2_with (go_at_call 185; refine (Tryz.utf8_ValidRune _ _).mono ?_; rintro e w1 ⟨rfl, hw⟩; rw [hw, HV.out])
    go_step3
    go_wp2_with fail
    go_loopw [9, 10] (fun i f w' => i = .int .i64 n ∧ f = .int .i64 0 ∧ w = w') (fun _ _ _ => 0)
    case atStart => exact ⟨rfl, rfl, rfl⟩
    case round =>
      obtain ⟨rfl, rfl, rfl⟩ := hrel
      by_cases hp : n < s.size
      · have ha : (s[n]'hp).toNat < 128 := HS.out _ (by rw [← bs_get s n hp]; exact List.getElem_mem _)
        have hne : (((s[n]'hp).toNat : Int) != ((R[n]'hlt).toNat : Int)) = true := by have := HR.out; rw [bne_iff_ne]; omega
        have HK := Lib.hid (fun a b w' => show Calls Tryz.prog 184 #[.string (s.extract a b), .int .u8 ((R[n]'hlt).toNat : Int)] w' (fun e w'' => e = .returned (.int .i64 (-1)) ∧ w'' = w') from
          (Tryz.strings_IndexByte (s.extract a b) ((R[n]'hlt).toNat : Int) w').mono fun e w'' ⟨h1, h2⟩ => ⟨by rw [h1, show Lib.indexByte (s.extract a b).data.toList ((R[n]'hlt).toNat : Int).toNat.toUInt8 = -1 from ib_wide (asci_cut HS.out a b) (by simpa using HR.out)], h2⟩)
        clear hcv
        go_wp2_with fail
        go_step3
        go_wp2_with fail
        go_quiet (fail)
        go_wp2_with fail
        have hw1 : IntKind.i64.wrap ((n : Int) + 1) = (n : Int) + 1 := IntWalk.i64_in _ (by omega)
        have hw2 : ((n : Int) + 1).toNat = n + 1 := by omega
        have hw3 : (0 : Int) ≤ (n : Int) + 1 := by omega
        have hw4 : (n : Int) + 1 ≤ (s.size : Int) := by omega
        go_quiet (first | (go_at_call 184; exact quietR (HK.out _ _ _)))
        go_wp2_with fail
        rw [Exit.noGoto_ret]
        dsimp (zetaDelta := true) only [Exit.inBlock, Exit.then, Exit.noGoto]
        go_ret
        exact ⟨rfl, below_drewN' _ _⟩
      · clear hcv
        go_wp2_with fail
        rw [Exit.noGoto_ret]
        go_ret
        exact ⟨rfl, Below.refl _ _⟩

/-- where the range over the string is -/
def AnyAt (S C : ByteArray) (w w' : World) : Prop :=
  ∃ (pos : Nat) (w1 : World), w1 = w' ∧ w1.heap[w.heap.size]? = some (.stringIter S pos) ∧ pos ≤ S.size ∧ Below w.heap.size w w1 ∧ Lib.NoAny (bs S) (bs C) pos
theorem iterPos_is {w : World} {k : Nat} {S : ByteArray} {pos : Nat} (h : w.heap[k]? = some (.stringIter S pos)) : w.iterPos k = pos := by
  simp [World.iterPos, h]
theorem no_wide {S C : ByteArray} (hC : Asci (bs C)) {pos : Nat} (hp : pos < S.size) (ha : 128 ≤ (S[pos]'hp).toNat) (h : Lib.NoAny (bs S) (bs C) pos) : Lib.NoAny (bs S) (bs C) (pos + (Utf8.decode S pos).2) := by
  obtain ⟨hw1, hw2⟩ := wide_high S pos hp ha
  intro j b hj hb
  by_cases hlt : j < pos
  · exact h j b hlt hb
  · have hjs : j < S.size := by omega
    have h3 := hw2 (j - pos) (by omega)
    rw [show pos + (j - pos) = j by omega, get_eq S j hjs] at h3
    have hbj : b = S[j]'hjs := by
      rw [List.getElem?_eq_getElem (by rw [bs_length]; exact hjs), bs_get S j hjs] at hb
      exact (Option.some.inj hb).symm
    rw [Bool.eq_false_iff]
    intro hc
    have := hC b (List.contains_iff_mem.1 hc)
    rw [hbj] at this
    omega

set_option maxRecDepth 100000 in
set_option maxHeartbeats 4000000 in
theorem any_short (S C : ByteArray) (w : World) (h8 : S.size ≤ 8) (h2 : 2 ≤ C.size) (hC : Asci (bs C)) :
    Calls Tryz.prog 144 #[.string S, .string C] w fun e w' => e = .returned (.int .i64 (Lib.indexAny (bs S) (bs C))) ∧ Below w.heap.size w w' := by
  have HC := Lib.hid hC
  have hemp : C.toList.isEmpty = false := by
    rw [Lib.toList_data]
    cases h : C.data.toList with
    | nil => have : (bs C).length = 0 := by rw [bs, h]; rfl
             rw [bs_length] at this; omega
    | cons _ _ => rfl
  have hn1 : ((C.size : Int) == 1) = false := beq_eq_false_iff_ne.2 (by omega)
  have h8z : decide ((8 : Int) < (S.size : Int)) = false := decide_eq_false (by omega)
  clear hC
  go_enter Tryz.func144, Tryz.ntmps144
  go_wp2_with (go_at_call 173; refine (Tryz.strings_shouldUseASCIISet _ _).mono ?_; rintro e w1 ⟨rfl, hw⟩; rw [hw, h8z])
  go_loopw [9, 10] (fun _ _ w' => AnyAt S C w w') (fun _ _ w' => S.size - w'.iterPos w.heap.size)
  case atStart => exact ⟨0, _, rfl, World.iter_heap _ _ _, Nat.zero_le _, below_iter _ _ _, Lib.NoAny.zero _ _⟩
  case round =>
    obtain ⟨pos, w1, rfl, hk, hle, hbel, hno⟩ := hrel
    have HN := Lib.hid hno
    have HK := Lib.hid hk
    have HB := Lib.hid hbel
    clear hno hbel
    by_cases hp : pos < S.size
    · have HT := Lib.hid (fun p => iterAt_heap w1 w.heap.size S pos p hk)
      by_cases ha : (S[pos]'hp).toNat < 128
      · have hnx := fun ty => run_next_ascii_at (P := Tryz.prog) w1 w.heap.size S pos ty hk hp ha
        obtain ⟨x, hx⟩ : ∃ x, S[pos]'hp = x := ⟨_, rfl⟩
        have Hx : Hid ((bs S)[pos]? = some x) := Lib.hid (by rw [List.getElem?_eq_getElem (by rw [bs_length]; exact hp), bs_get S pos hp, hx])
        rw [hx] at hnx ha
        have hcon := Lib.contains_iff_indexByte (bs C) x
        have hback : ((x.toNat : Int)).toNat.toUInt8 = x := by simp
        have HX := Lib.hid hback
        clear hk hx hback
        cases hin : (bs C).contains x
        · rw [hin] at hcon
          have hlt : ¬ ((0 : Int) ≤ Lib.indexByte (bs C) x) := of_decide_eq_false hcon.symm
          have HI := Lib.hid hin
          clear hcon hin
          go_wp2_with (go_at_call 158; refine (Tryz.strings_IndexRune_ascii C _ _ (by omega) (by omega)).mono ?_; rintro e w2 ⟨rfl, hw⟩; rw [hw, HX.out, show C.data.toList = bs C from rfl])
          go_roundw
          case rel => exact ⟨pos + 1, _, rfl, HT.out _, by omega, below_iterAt HB.out (Nat.le_refl _) _ _, HN.out.succ Hx.out HI.out⟩
          case measure => rw [iterPos_is HK.out, iterPos_is (HT.out _)]; omega
        · rw [hin] at hcon
          have hge : (0 : Int) ≤ Lib.indexByte (bs C) x := of_decide_eq_true hcon.symm
          have HI := Lib.hid hin
          clear hcon hin
          go_wp2_with (go_at_call 158; refine (Tryz.strings_IndexRune_ascii C _ _ (by omega) (by omega)).mono ?_; rintro e w2 ⟨rfl, hw⟩; rw [hw, HX.out, show C.data.toList = bs C from rfl])
          go_ret
          exact ⟨by rw [Lib.indexAny_hit HN.out Hx.out HI.out]; rfl, below_iterAt HB.out (Nat.le_refl _) _ _⟩
      · have hnx := fun ty => run_next_any_at (P := Tryz.prog) w1 w.heap.size S pos ty hk hp
        have hd := (decode_high S pos hp (by omega)).1
        have hd1 := (decode_high S pos hp (by omega)).2
        have HNo := Lib.hid (no_wide HC.out hp (by omega) HN.out)
        have hwd := (wide_high S pos hp (by omega)).1
        have hr : (128 : Int) ≤ ((Utf8.decode S pos).1 : Int) := by omega
        have HW := Lib.hid (fun wx => irune_wide C HC.out _ hr wx)
        generalize ((Utf8.decode S pos).1 : Int) = r at *
        generalize (Utf8.decode S pos).2 = d at *
        have HT2 := Lib.hid (HT.out (pos + d))
        have HB2 := Lib.hid (below_iterAt HB.out (Nat.le_refl w.heap.size) S (pos + d))
        clear hk ha hd HT
        go_wp2_with fail
        refine (HW.out _).mono ?_
        rintro e w2 ⟨rfl, hb⟩
        have HT3 : Hid (w2.heap[w.heap.size]? = some (.stringIter S (pos + d))) := Lib.hid ((hb.block _ (by have := (Array.getElem?_eq_some_iff.1 HT2.out).1; exact this)).trans HT2.out)
        have HB3 := Lib.hid (HB2.out.trans (hb.mono HB2.out.size))
        clear hb
        go_wp2_with fail
        go_roundw
        case rel => exact ⟨pos + d, _, rfl, HT3.out, by omega, HB3.out, HNo.out⟩
        case measure => rw [iterPos_is HK.out, iterPos_is HT3.out]; omega
    · have hnx := fun ty => run_next_end_at (P := Tryz.prog) w1 w.heap.size S pos ty hk hp
      go_wp2
      go_ret
      exact ⟨by rw [Lib.indexAny_none (by rw [bs_length]; obtain rfl : pos = S.size := (by omega); exact HN.out)]; rfl, HB.out⟩

theorem set256 : (Tryz.prog.info? 177).map (fun i => (i.zero, i.size)) = some (some (.agg (Array.replicate 256 (.bool false))), 256) := by kernel_rfl
/-- strings.IndexAny, of two signs of ASCII or more -/
theorem any_any (S C : ByteArray) (w : World) (hS : S.size < 4294967281) (h2 : 2 ≤ C.size) (hz : C.size < 4294967281) (hC : Asci (bs C)) :
    Calls Tryz.prog 144 #[.string S, .string C] w fun e w' => e = .returned (.int .i64 (Lib.indexAny (bs S) (bs C))) ∧ Below w.heap.size w w' := by
  by_cases h8 : S.size ≤ 8
  · exact any_short S C w h8 h2 hC
  · refine (Tryz.strings_IndexAny_long (zero_of_info set256).1 S C w h2 (by omega) hS hz (fun j b hb => hC b (List.mem_of_getElem? hb))).mono fun e w' ⟨h1, h3⟩ => ⟨h1, ?_⟩
    rw [h3]
    exact ((Below.refl _ _).alloc (Nat.le_refl _) _).alloc (by simp) _
end Go.Proofs.YtlpondbcnfaggaaGreatDoor.Tx
