/-
  What the functions of package authority and hagioscoperef13 answer, as values; a byte in a text, a sign ahead of one. Plain lemmas, and three contracts of package strings. No condition.
-/
import Derived.Test.YtgpgkfbbpiialaaGreatDoorAuPure
import Derived.Test.YtgpgkfbbpiialaaGreatDoorAuEnv
import Derived.Test.YtgpgkfbbpiialaaGreatDoorRlForm
import Derived.Test.YtgpgkfbbpiialaaGreatDoorRfVis
import Derived.Test.YtgpgkfbbpiialaaGreatDoorMRl
import Derived.OwnWalk
namespace Go.Proofs.YtgpgkfbbpiialaaGreatDoor.Au
open Go.RowKit Go.Proofs.YtgpgkfbbpiialaaGreatDoor.Wd Go.Proofs.YtgpgkfbbpiialaaGreatDoor.Asc Go.Proofs.YtgpgkfbbpiialaaGreatDoor.Tx

def resT (r : Res) : Value := .tuple #[.string (str r.1), .int .i64 r.2.1, .int .i64 r.2.2]
def ResP (r : Res) (w : World) (e : Ending) (w' : World) : Prop := e = .returned (resT r) ∧ Below w.heap.size w w'
/-- the host and what is behind it, of a text that may be parsed -/
def spS (l : List UInt8) : (List UInt8 × List UInt8) × Int := if l.head? = some 91 then bracketS (l.drop 1) else ((l.takeWhile (· != 58), l.dropWhile (· != 58)), 0)
def brT (x : (List UInt8 × List UInt8) × Int) : Value := .tuple #[.string (str x.1.1), .string (str x.1.2), .bool (decide (x.2 = 0))]
def hoT (x : (List UInt8 × List UInt8) × Int) : Value := .tuple #[.string (str x.1.1), .string (str x.1.2), .int .i64 x.2]

theorem host_nil : hostS [] = (([], []), 8) := rfl
theorem host_colon {l : List UInt8} (h : l.head? = some 58) : hostS l = (([], []), 8) := if_pos (.inr h)
theorem host_form {l : List UInt8} (h0 : l ≠ []) (h1 : l.head? ≠ some 58) (h : allS visI l = false ∨ (64 : UInt8) ∈ l) : hostS l = (([], []), 3) := by
  unfold hostS
  rw [if_neg (by rintro (h | h) <;> contradiction), if_pos h]
theorem host_sp {l : List UInt8} (h0 : l ≠ []) (h1 : l.head? ≠ some 58) (h2 : allS visI l = true) (h3 : (64 : UInt8) ∉ l) : hostS l = spS l := by
  unfold hostS
  rw [if_neg (by rintro (h | h) <;> contradiction), if_neg (by rw [h2]; simpa using h3)]
  rfl
theorem sp_brack {l : List UInt8} (h : l.head? = some 91) : spS l = bracketS (l.drop 1) := if_pos h
theorem sp_plain {l : List UInt8} (h : l.head? ≠ some 91) : spS l = ((l.takeWhile (· != 58), l.dropWhile (· != 58)), 0) := if_neg h
theorem brack_free {m : List UInt8} (h : (93 : UInt8) ∉ m) : bracketS m = (([], []), 3) := if_neg h
theorem brack_yes {i r a : List UInt8} (h : (93 : UInt8) ∉ i) (h2 : (58 : UInt8) ∈ i) (h3 : Ad.parseS i = some a) : bracketS (i ++ 93 :: r) = ((Ad.ctext a, r), 0) := by
  unfold bracketS
  rw [if_pos (by simp), (while_at h).1, (while_at h).2, h3]
  dsimp only
  rw [if_pos h2]
  rfl
theorem brack_dot {i r : List UInt8} (h : (93 : UInt8) ∉ i) (h2 : (58 : UInt8) ∉ i) : bracketS (i ++ 93 :: r) = (([], []), 3) := by
  unfold bracketS
  rw [if_pos (by simp), (while_at h).1, (while_at h).2]
  cases Ad.parseS i with
  | none => rfl
  | some a => dsimp only; rw [if_neg h2]
theorem brack_no {i r : List UInt8} (h : (93 : UInt8) ∉ i) (h3 : Ad.parseS i = none) : bracketS (i ++ 93 :: r) = (([], []), 3) := by
  unfold bracketS
  rw [if_pos (by simp), (while_at h).1, (while_at h).2, h3]
theorem parse_host {l : List UInt8} {e : Int} (h : hostS l = (([], []), e)) (he : e ≠ 0) : parseS l = ([], 0, e) := by
  unfold parseS
  rw [h, if_pos he]
theorem port_nil : portS [] = (0, 0) := rfl
theorem port_form {c : UInt8} {d : List UInt8} (h : c ≠ 58) : portS (c :: d) = (0, 3) := by rw [portS_cons, if_pos h]
theorem port_none_num {d : List UInt8} (h : numS d 65535 = none) : portS (58 :: d) = (0, 10) := by rw [portS_cons, if_neg (by simp), h]
theorem port_zero {d : List UInt8} (h : numS d 65535 = some 0) : portS (58 :: d) = (0, 10) := by
  rw [portS_cons, if_neg (by simp), h]
  rfl
theorem port_some {d : List UInt8} {n : Int} (h : numS d 65535 = some n) (h0 : n ≠ 0) : portS (58 :: d) = (n, 0) := by
  rw [portS_cons, if_neg (by simp), h]
  dsimp only
  rw [if_neg h0]

theorem idx_mem (l : List UInt8) (c : UInt8) : decide (0 ≤ Lib.indexByte l c) = decide (c ∈ l) := by
  by_cases h : c ∈ l
  · rw [decide_eq_true h, decide_eq_true (Tx.ib_mem h)]
  · rw [decide_eq_false h, Tx.ib_free h]; rfl
theorem pre_one (c : UInt8) (b : List UInt8) : Lib.hasPrefix b [c] = decide (b.head? = some c) := by
  cases b with
  | nil => rfl
  | cons x l =>
    by_cases h : x = c
    · subst h; simp [Lib.hasPrefix]
    · have h' : (c == x) = false := by rw [beq_eq_false_iff_ne]; exact fun e => h e.symm
      simp [Lib.hasPrefix, List.isPrefixOf, h, h']
theorem has_any (S : ByteArray) (c : UInt8) (w : World) :
    Calls Tryz.prog 11 #[.string S, .string ⟨#[c]⟩] w fun e w' => e = .returned (.bool (decide (c ∈ bs S))) ∧ w = w' := by
  rw [← idx_mem]
  exact (Tryz.strings_Contains_one S c w).mono fun _ _ ⟨h1, h2⟩ => ⟨h1, h2.symm⟩
theorem begins_any (S : ByteArray) (c : UInt8) (w : World) :
    Calls Tryz.prog 22 #[.string S, .string ⟨#[c]⟩] w fun e w' => e = .returned (.bool (decide ((bs S).head? = some c))) ∧ w = w' := by
  have h := Tx.prefix_any S ⟨#[c]⟩ w
  rw [show bs (⟨#[c]⟩ : ByteArray) = [c] from rfl, pre_one] at h
  exact h
theorem behind_any (S : ByteArray) (c : UInt8) (w : World) :
    Calls Tryz.prog 38 #[.string S, .string ⟨#[c]⟩] w fun e w' => e = .returned (.tuple #[.string (if (bs S).head? = some c then str ((bs S).drop 1) else S), .bool (decide ((bs S).head? = some c))]) ∧ w = w' := by
  refine (Tryz.strings_CutPrefix S ⟨#[c]⟩ w).mono fun _ _ ⟨h1, h2⟩ => ⟨?_, h2.symm⟩
  have e1 : Lib.hasPrefix S.data.toList (⟨#[c]⟩ : ByteArray).data.toList = decide ((bs S).head? = some c) := pre_one c (bs S)
  have e2 : Lib.trimPrefix S.data.toList (⟨#[c]⟩ : ByteArray).data.toList = if (bs S).head? = some c then (bs S).drop 1 else bs S := by
    unfold Lib.trimPrefix
    rw [e1]
    by_cases h : (bs S).head? = some c
    · rw [decide_eq_true h, if_pos rfl, if_pos h]; rfl
    · rw [decide_eq_false h, if_neg (by simp), if_neg h]; rfl
  rw [h1, e1, e2]
  by_cases h : (bs S).head? = some c
  · rw [if_pos h, if_pos h]
  · rw [if_neg h, if_neg h, show (⟨(bs S).toArray⟩ : ByteArray) = S from Tx.str_bs S]
end Go.Proofs.YtgpgkfbbpiialaaGreatDoor.Au

/-
  Contracts of hagioscoperef13's has and until over this seat's translation; where a text is cut ahead of a byte.
-/
namespace Go.Proofs.YtgpgkfbbpiialaaGreatDoor.Au
open Go.RowKit Go.Proofs.YtgpgkfbbpiialaaGreatDoor.Wd Go.Proofs.YtgpgkfbbpiialaaGreatDoor.Asc Go.Proofs.YtgpgkfbbpiialaaGreatDoor.Tx Go.Proofs.YtgpgkfbbpiialaaGreatDoor.St

theorem byte_eq (a c : UInt8) : ((a.toNat : Int) == (c.toNat : Int)) = decide (a = c) := by
  by_cases h : a = c
  · subst h; simp
  · have : a.toNat ≠ c.toNat := fun e => h (UInt8.toNat_inj.1 e)
    rw [decide_eq_false h, beq_eq_false_iff_ne]
    omega
theorem not_next {s : ByteArray} {c : UInt8} {k : Nat} (h : k < s.size) (ht : c ∉ (bs s).take k) (hc : s[k]'h ≠ c) : c ∉ (bs s).take (k + 1) := by
  rw [bs_take s k h, List.mem_append, List.mem_singleton]
  rintro (h1 | h1)
  · exact ht h1
  · exact hc h1.symm
theorem in_at {s : ByteArray} {c : UInt8} {k : Nat} (h : k < s.size) (hc : s[k]'h = c) : c ∈ bs s := by
  have h1 : s[k]'h ∈ (bs s).take (k + 1) := by rw [bs_take s k h]; simp
  rw [hc] at h1
  exact List.mem_of_mem_take h1
theorem none_at {s : ByteArray} {c : UInt8} {k : Nat} (h : ¬ k < s.size) (ht : c ∉ (bs s).take k) : c ∉ bs s := by
  rwa [List.take_of_length_le (by rw [bs_length]; omega)] at ht
/-- where a text is cut ahead of a byte -/
theorem cut_here {s : ByteArray} {c : UInt8} {k : Nat} (hk : k ≤ s.size) (ht : c ∉ (bs s).take k) (hc : ∀ h : k < s.size, s[k]'h = c) :
    str ((bs s).takeWhile (· != c)) = s.extract 0 k ∧ str ((bs s).dropWhile (· != c)) = s.extract k s.size := by
  have key : (bs s).takeWhile (· != c) = (bs s).take k ∧ (bs s).dropWhile (· != c) = (bs s).drop k := by
    by_cases h : k < s.size
    · have e : bs s = (bs s).take k ++ c :: (bs s).drop (k + 1) := by
        conv => lhs; rw [← List.take_append_drop k (bs s), bs_drop s k h, hc h]
      have e2 : (bs s).drop k = c :: (bs s).drop (k + 1) := by rw [bs_drop s k h, hc h]
      have h1 := while_at (b := (bs s).drop (k + 1)) ht
      rw [← e] at h1
      rw [h1.1, h1.2, e2]
      exact ⟨rfl, rfl⟩
    · have e : (bs s).take k = bs s := List.take_of_length_le (by rw [bs_length]; omega)
      have e2 : (bs s).drop k = [] := List.drop_of_length_le (by rw [bs_length]; omega)
      rw [e] at ht
      rw [(while_free ht).1, (while_free ht).2, e, e2]
      exact ⟨rfl, rfl⟩
  rw [key.1, key.2]
  constructor
  · apply bs_inj; rw [bs_str, bs_extract, List.drop_zero, Nat.sub_zero]
  · apply bs_inj; rw [bs_str, bs_extract, List.take_of_length_le (by rw [List.length_drop, bs_length]; omega)]

theorem rhas_any (s : ByteArray) (c : UInt8) (w : World) (hs : s.size ≤ maxLen) :
    Calls Tryz.prog 13 #[.string s, .int .u8 (c.toNat : Int)] w fun e w' => e = .returned (.bool (decide (c ∈ bs s))) ∧ w = w' := by
  unfold maxLen at hs
  go_enter Tryz.func13, Tryz.ntmps13
  go_wp2
  go_loop [5] (fun x => ∃ k : Nat, x = .int .i64 k ∧ k ≤ s.size ∧ c ∉ (bs s).take k) (fun x => s.size - (intOf x).toNat)
  case atStart => exact ⟨0, rfl, Nat.zero_le _, by simp⟩
  case round =>
    obtain ⟨k, rfl, hk, ht⟩ := hrel
    have HT := Lib.hid ht
    clear ht
    by_cases hlt : k < s.size
    · have hb := byte_eq (s[k]'hlt) c
      by_cases c1 : s[k]'hlt = c
      · rw [decide_eq_true c1] at hb
        have HI := Lib.hid (decide_eq_true (in_at hlt c1))
        clear c1
        go_wp2
        go_ret
        exact ⟨ret_b HI.out.symm, rfl⟩
      · rw [decide_eq_false c1] at hb
        have HN := Lib.hid (not_next hlt HT.out c1)
        clear c1
        go_wp2
        go_round
        case rel => exact ⟨k + 1, by go_num, hlt, HN.out⟩
        case measure => simp [intOf]; omega
    · go_wp2
      go_ret
      exact ⟨ret_b (decide_eq_false (none_at hlt HT.out)).symm, rfl⟩

def untT (s : ByteArray) (c : UInt8) : Value := .tuple #[.string (str ((bs s).takeWhile (· != c))), .string (str ((bs s).dropWhile (· != c)))]
set_option maxHeartbeats 1000000 in
theorem until_any (s : ByteArray) (c : UInt8) (w : World) (hs : s.size ≤ maxLen) :
    Calls Tryz.prog 45 #[.string s, .int .u8 (c.toNat : Int)] w fun e w' => e = .returned (untT s c) ∧ Below w.heap.size w w' := by
  unfold maxLen at hs
  go_enter Tryz.func45, Tryz.ntmps45
  go_wp2
  go_loop [6] (fun x => ∃ k : Nat, x = .int .i64 k ∧ k ≤ s.size ∧ c ∉ (bs s).take k) (fun x => s.size - (intOf x).toNat)
  case atStart => exact ⟨0, rfl, Nat.zero_le _, by simp⟩
  case round =>
    obtain ⟨k, rfl, hk, ht⟩ := hrel
    have HT := Lib.hid ht
    clear ht
    have hk1 : (k : Int) ≤ (s.size : Int) := by omega
    have hk0 : (0 : Int) ≤ (k : Int) := by omega
    by_cases hlt : k < s.size
    · have hb := byte_eq (s[k]'hlt) c
      by_cases c1 : s[k]'hlt = c
      · rw [decide_eq_true c1] at hb
        have hn : (((s[k]'hlt).toNat : Int) != (c.toNat : Int)) = false := by rw [bne, hb]; rfl
        have HI := Lib.hid (cut_here hk HT.out (fun _ => c1))
        clear c1
        go_wp2
        go_quiet (fail)
        all_goals (
          go_wp2_with fail
          go_ret2
          unfold untT
          rw [HI.out.1, HI.out.2]
          exact ⟨rfl, below_drewN' _ _⟩)
      · rw [decide_eq_false c1] at hb
        have hn : (((s[k]'hlt).toNat : Int) != (c.toNat : Int)) = true := by rw [bne, hb]; rfl
        have HN := Lib.hid (not_next hlt HT.out c1)
        clear c1
        go_wp2
        go_round
        case rel => exact ⟨k + 1, by go_num, hlt, HN.out⟩
        case measure => simp [intOf]; omega
    · have HI := Lib.hid (cut_here hk HT.out (fun h => absurd h hlt))
      go_wp2
      go_quiet (fail)
      all_goals (
        go_wp2_with fail
        go_ret2
        unfold untT
        rw [HI.out.1, HI.out.2]
        exact ⟨rfl, below_drewN' _ _⟩)
end Go.Proofs.YtgpgkfbbpiialaaGreatDoor.Au

/-
  A text that is empty, its first byte; an address in a block of its own; how long a rest is. Plain lemmas, no condition.
-/
namespace Go.Proofs.YtgpgkfbbpiialaaGreatDoor.Au
open Go.RowKit Go.Proofs.YtgpgkfbbpiialaaGreatDoor.Wd Go.Proofs.YtgpgkfbbpiialaaGreatDoor.Asc Go.Proofs.YtgpgkfbbpiialaaGreatDoor.Tx Go.Proofs.YtgpgkfbbpiialaaGreatDoor.St

theorem empty_is (S : ByteArray) : (S.toList == []) = decide (bs S = []) := by
  have h := Rl.lit_beq (bs S) []
  rwa [str_bs] at h
theorem head_is (s : ByteArray) (h : 0 < s.size) : (bs s).head? = some (s[0]'h) := by rw [List.head?_eq_getElem?]; exact first_is s h
theorem head_dec {s : ByteArray} {h : 0 < s.size} (k : UInt8) : (((s[0]'h).toNat : Int) == (k.toNat : Int)) = decide ((bs s).head? = some k) := by
  rw [byte_eq, head_is s h]
  by_cases e : s[0]'h = k
  · simp [e]
  · simp [e]
/-- an address in a block of its own -/
theorem adr_new (w : World) (V : List UInt8) :
    Blk ((w.alloc (.cells #[Value.int .u8 0, Value.int .u8 0, Value.int .u8 0, Value.int .u8 0, Value.int .u8 0, Value.int .u8 0, Value.int .u8 0, Value.int .u8 0, Value.int .u8 0, Value.int .u8 0, Value.int .u8 0, Value.int .u8 0, Value.int .u8 0, Value.int .u8 0, Value.int .u8 0, Value.int .u8 0] 63)).setRow w.heap.size (Ad.cA V)) w.heap.size 63 (Ad.cA V) ∧
    Below w.heap.size w ((w.alloc (.cells #[Value.int .u8 0, Value.int .u8 0, Value.int .u8 0, Value.int .u8 0, Value.int .u8 0, Value.int .u8 0, Value.int .u8 0, Value.int .u8 0, Value.int .u8 0, Value.int .u8 0, Value.int .u8 0, Value.int .u8 0, Value.int .u8 0, Value.int .u8 0, Value.int .u8 0, Value.int .u8 0] 63)).setRow w.heap.size (Ad.cA V)) :=
  ⟨setRow_blk (Blk.new _ _ _), setRow_below ((Below.refl _ _).alloc (Nat.le_refl _) _) (Blk.new _ _ _) (Nat.le_refl _) _⟩
theorem range_adr {w : World} {g t : Nat} {a : List UInt8} (h : Blk w g t (Ad.cA a)) : w.rangeAt g 0 (cellsOf a) := fun j v hv => by
  rw [Nat.zero_add, h.cell]
  simpa using hv

theorem rest_len (l : List UInt8) : (hostS l).1.2.length ≤ l.length := by
  have h1 := fun m : List UInt8 => (List.dropWhile_suffix (l := m) (fun x : UInt8 => x != 93)).length_le
  have h2 := (List.dropWhile_suffix (l := l) (fun x : UInt8 => x != 58)).length_le
  unfold hostS bracketS
  split
  · exact Nat.zero_le _
  · split
    · exact Nat.zero_le _
    · split
      · split
        · split
          · split
            · have := h1 (l.drop 1)
              simp only [List.length_drop] at this ⊢
              omega
            · exact Nat.zero_le _
          · exact Nat.zero_le _
        · exact Nat.zero_le _
      · exact h2

/-- a text that may be parsed, but is in wrong brackets -/
theorem sp_err {l h r : List UInt8} {e : Int} (hh : hostS l = ((h, r), e)) (h0 : e ≠ 0) (h8 : l ≠ []) (h58 : l.head? ≠ some 58) : e = 3 := by
  unfold hostS bracketS at hh
  rw [if_neg (by rintro (h | h) <;> contradiction)] at hh
  repeat' split at hh
  all_goals (injection hh with _ hh; first | exact hh.symm | exact absurd hh.symm h0)
end Go.Proofs.YtgpgkfbbpiialaaGreatDoor.Au
