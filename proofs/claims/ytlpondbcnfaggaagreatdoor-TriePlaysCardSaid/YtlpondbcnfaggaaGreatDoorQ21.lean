/-
  Contracts of hagioscoperef04's Of, Right and Has.
-/
import Derived.Test.YtlpondbcnfaggaaGreatDoorQ19
import Derived.Test.YtlpondbcnfaggaaGreatDoorQ17
import Derived.Test.YtlpondbcnfaggaaGreatDoorQ08
import Derived.Test.YtlpondbcnfaggaaGreatDoorQ07
import Derived.LoopTactic
namespace Go.Proofs.YtlpondbcnfaggaaGreatDoor.Ad
open Go.RowKit Go.Proofs.YtlpondbcnfaggaaGreatDoor.Wd



end Go.Proofs.YtlpondbcnfaggaaGreatDoor.Ad

/-
  Contracts of hagioscoperef03's hex and group, and of hagioscoperef04's Text.
-/
namespace Go.Proofs.YtlpondbcnfaggaaGreatDoor.Ad
open Go.RowKit Go.Proofs.YtlpondbcnfaggaaGreatDoor.Wd Go.Proofs.YtlpondbcnfaggaaGreatDoor.Asc

theorem hex_at : ∀ d : Fin 16, ((bs ⟨#[48, 49, 50, 51, 52, 53, 54, 55, 56, 57, 97, 98, 99, 100, 101, 102]⟩).drop d.1).take 1 = [hdg d.1] := by decide
theorem hex_ext (n : Nat) (h : n < 16) : (⟨#[48, 49, 50, 51, 52, 53, 54, 55, 56, 57, 97, 98, 99, 100, 101, 102]⟩ : ByteArray).extract n (n + 1) = str (hexT n) := by
  apply bs_inj
  rw [bs_extract, Nat.add_sub_cancel_left, show bs (str (hexT n)) = hexT n from rfl, hexT, if_pos h]
  exact hex_at ⟨n, h⟩
theorem hexT_add (n : Nat) (h : ¬ n < 16) (h2 : n < 65536) : str (hexT (n / 16)) ++ str (hexT (n % 16)) = str (hexT n) := by
  apply bs_inj
  rw [bs_add]
  show hexT (n / 16) ++ hexT (n % 16) = hexT n
  have e1 : hexT (n % 16) = [hdg (n % 16)] := by rw [hexT, if_pos (Nat.mod_lt _ (by omega))]
  rw [e1]
  have h1 : ¬ n < 16 := h
  conv => rhs; unfold hexT
  rw [if_neg h1]
  by_cases g2 : n < 256
  · rw [if_pos g2, hexT, if_pos (by omega)]; rfl
  · rw [if_neg g2]
    by_cases g3 : n < 4096
    · rw [if_pos g3, hexT, if_neg (by omega), if_pos (by omega), Nat.div_div_eq_div_mul]; rfl
    · rw [if_neg g3, hexT, if_neg (by omega), if_neg (by omega), if_pos (by omega), Nat.div_div_eq_div_mul, Nat.div_div_eq_div_mul]; rfl
set_option maxHeartbeats 1000000 in
theorem rhex_text (n : Nat) : ∀ (m : Int) (w : World), m = (n : Int) → n < 65536 →
    Calls Tryz.prog 180 #[.int .i64 m] w fun e w' => e = .returned (.string (str (hexT n))) ∧ w = w' := by
  induction n using Nat.strongRecOn with
  | _ n ih =>
    intro m w hm hn
    subst hm
    by_cases h : n < 16
    · have HE := Lib.hid (hex_ext n h)
      have h' : (n : Int) < 16 := by omega
      clear ih
      go_enter Tryz.func180, Tryz.ntmps180
      go_wp2
      go_ret
      exact ⟨ret_s (by rw [← HE.out]), rfl⟩
    · have h' : ¬ (n : Int) < 16 := by omega
      have HA := Lib.hid (hexT_add n h hn)
      have I1 := Lib.hid (ih (n / 16) (by omega))
      have I2 := Lib.hid (ih (n % 16) (by omega))
      have z1 : (str (hexT (n / 16))).size ≤ 4 := by rw [str_size]; exact (hexT_len _).2
      have z2 : (str (hexT (n % 16))).size ≤ 4 := by rw [str_size]; exact (hexT_len _).2
      clear ih
      go_enter Tryz.func180, Tryz.ntmps180
      go_wp2_with fail
      refine (I1.out _ _ (by omega) (by omega)).mono ?_
      rintro e w' ⟨rfl, rfl⟩
      go_wp2_with fail
      refine (I2.out _ _ (by omega) (by omega)).mono ?_
      rintro e w' ⟨rfl, rfl⟩
      go_wp2_with fail
      go_ret
      exact ⟨ret_s HA.out, rfl⟩

theorem rpairs_get : ∀ (a : List UInt8) (k : Nat) (x y : UInt8), a[2 * k]? = some x → a[2 * k + 1]? = some y → (pairs a)[k]? = some (x.toNat * 256 + y.toNat)
  | [], k, x, y, h, _ => by simp at h
  | [c], k, x, y, _, h => by simp at h
  | c :: d :: r, 0, x, y, h1, h2 => by
    simp at h1 h2
    subst h1 h2
    rfl
  | c :: d :: r, k + 1, x, y, h1, h2 => by
    rw [show 2 * (k + 1) = 2 * k + 1 + 1 by omega] at h1 h2
    rw [pairs]
    exact rpairs_get r k x y (by simpa using h1) (by simpa using h2)
set_option maxRecDepth 100000 in
set_option maxHeartbeats 1000000 in
theorem rgroup_any (a : List UInt8) (ha : a.length = 16) (k : Nat) (hk : k < 8) (w : World) :
    Calls Tryz.prog 179 #[.agg (cA a), .int .i64 k] w fun e w' => e = .returned (.int .i64 (((pairs a).getD k 0 : Nat) : Int)) ∧ Below w.heap.size w w' := by
  have h1 : a[2 * k]? = some (a[2 * k]'(by omega)) := List.getElem?_eq_getElem (by omega)
  have h2 : a[2 * k + 1]? = some (a[2 * k + 1]'(by omega)) := List.getElem?_eq_getElem (by omega)
  generalize a[2 * k]'(by omega) = x at *
  generalize a[2 * k + 1]'(by omega) = y at *
  have HP := Lib.hid (show (pairs a).getD k 0 = x.toNat * 256 + y.toNat by rw [List.getD_eq_getElem?_getD, rpairs_get a k x y h1 h2]; rfl)
  have hx := x.toNat_lt
  have hy := y.toNat_lt
  go_enter Tryz.func179, Tryz.ntmps179
  go_wp2_with fail
  have b0 := Blk.new w 48 (cA a)
  have hbel : Below w.heap.size w (w.alloc (.cells (cA a) 48)) := (Below.refl _ _).alloc (Nat.le_refl _) _
  generalize w.alloc (.cells (cA a) 48) = w1 at *
  have c1 : w1.cell? ⟨w.heap.size, 2 * k, none⟩ = some (.int .u8 (x.toNat : Int)) := by rw [cell_a b0 (2 * k), h1]; rfl
  have c2 : w1.cell? ⟨w.heap.size, 2 * k + 1, none⟩ = some (.int .u8 (y.toNat : Int)) := by rw [cell_a b0 (2 * k + 1), h2]; rfl
  have HL := Lib.hid hbel
  clear b0 hbel h1 h2
  go_quiet (fail)
  all_goals (
    go_wp2_with fail
    go_ret
    refine ⟨?_, ?_⟩
    · rw [HP.out]
      first | rfl | (congr 2; omega)
    · exact HL.out.trans ((below_drewN' _ _).mono HL.out.size))

theorem txt_dec (n : Nat) : txtL n = Lib.decDigits n := by
  induction n using Nat.strongRecOn with
  | _ n ih =>
    by_cases h : n < 10
    · rw [txt_one n h, Lib.decDigits_one h]; rfl
    · rw [txt_more n h, ih (n / 10) (by omega)]
      conv => rhs; rw [Lib.decDigits, dif_neg h]
      rfl
def negS (m : Nat) : ByteArray := str (45 :: txtL m)
theorem negS_add (m : Nat) (h : ¬ m < 10) : negS (m / 10) ++ txtS (m % 10) = negS m := by
  apply bs_inj
  rw [bs_add]
  show 45 :: txtL (m / 10) ++ txtL (m % 10) = 45 :: txtL m
  rw [txt_more m h, txt_one (m % 10) (Nat.mod_lt _ (by omega))]
  rfl
theorem neg_one (m : Nat) : (⟨#[45]⟩ : ByteArray) ++ txtS m = negS m := by
  apply bs_inj
  rw [bs_add]
  rfl
end Go.Proofs.YtlpondbcnfaggaaGreatDoor.Ad

/-
  The document's text of an address by its groups is package addr's. No condition.
-/
namespace Go.Proofs.YtlpondbcnfaggaaGreatDoor.Ad
open Go Go.Proofs.YtlpondbcnfaggaaGreatDoor.Asc

def lzS : List Nat → Nat
  | [] => 0
  | x :: r => if x = 0 then lzS r + 1 else 0
theorem lz_is : ∀ (l : List Nat) (n : Nat), (∀ j, j < n → l[j]? = some 0) → (l[n]? = none ∨ ∃ x, l[n]? = some x ∧ x ≠ 0) → lzS l = n
  | [], n, h, _ => by
    cases n with
    | zero => rfl
    | succ n => have := h 0 (by omega); simp at this
  | x :: r, 0, _, h2 => by
    rcases h2 with h | ⟨y, h, hy⟩
    · simp at h
    · simp at h
      subst h
      rw [lzS, if_neg hy]
  | x :: r, n + 1, h, h2 => by
    have h0 := h 0 (by omega)
    simp at h0
    subst h0
    rw [lzS, if_pos rfl, lz_is r n (fun j hj => by simpa using h (j + 1) (by omega)) (by simpa using h2)]
/-- the longest row of zeros, the first one -/
def bR (row : List Nat) : Nat → Nat × Nat
  | 0 => (0, 0)
  | k + 1 => if (bR row k).2 < lzS (row.drop k) then (k, lzS (row.drop k)) else bR row k
def selR (row : List Nat) : Nat × Nat := if (bR row 8).2 < 2 then (8, 8) else ((bR row 8).1, (bR row 8).1 + (bR row 8).2)
def selG (g : Nat × Nat) : Nat × Nat := if g.1 = g.2 then (8, 8) else g
def z01 (n : Nat) : Nat := if n = 0 then 0 else 1
theorem z01_zero (n : Nat) : z01 n = 0 ↔ n = 0 := by
  unfold z01
  split
  · exact ⟨fun _ => by assumption, fun _ => rfl⟩
  · exact ⟨fun h => by omega, fun h => by omega⟩
theorem z01_le (n : Nat) : z01 n ≤ 1 := by unfold z01; split <;> omega
theorem lzS_map : ∀ l : List Nat, lzS (l.map z01) = lzS l
  | [] => rfl
  | x :: r => by
    rw [List.map_cons, lzS, lzS, lzS_map r]
    by_cases h : x = 0
    · rw [if_pos h, if_pos ((z01_zero x).2 h)]
    · rw [if_neg h, if_neg (fun e => h ((z01_zero x).1 e))]
theorem bR_map (row : List Nat) : ∀ k, bR (row.map z01) k = bR row k
  | 0 => rfl
  | k + 1 => by rw [bR, bR, bR_map row k, ← List.map_drop, lzS_map]
theorem getD_map (row : List Nat) (k : Nat) : (row.map z01).getD k 0 = z01 (row.getD k 0) := by
  rw [List.getD_eq_getElem?_getD, List.getD_eq_getElem?_getD, List.getElem?_map]
  cases row[k]? <;> rfl
theorem gapN_map (row : List Nat) : ∀ k, gapN (row.map z01) k = gapN row k
  | 0 => rfl
  | k + 1 => by
    rw [gapN, gapN, gapN_map row k, getD_map]
    generalize row.getD k 0 = n
    unfold gapStep
    by_cases h : n = 0
    · rw [if_pos h, if_pos ((z01_zero n).2 h)]
    · rw [if_neg h, if_neg (fun e => h ((z01_zero n).1 e))]
def pat (p : Nat) : List Nat := [p % 2, p / 2 % 2, p / 4 % 2, p / 8 % 2, p / 16 % 2, p / 32 % 2, p / 64 % 2, p / 128 % 2]
theorem all_pat : (List.range 256).all (fun p => selR (pat p) == selG (gapS (pat p))) = true := by kernel_rfl
theorem sel_bits {b0 b1 b2 b3 b4 b5 b6 b7 : Nat} (h0 : b0 ≤ 1) (h1 : b1 ≤ 1) (h2 : b2 ≤ 1) (h3 : b3 ≤ 1) (h4 : b4 ≤ 1) (h5 : b5 ≤ 1) (h6 : b6 ≤ 1) (h7 : b7 ≤ 1) : selR [b0, b1, b2, b3, b4, b5, b6, b7] = selG (gapS [b0, b1, b2, b3, b4, b5, b6, b7]) := by
  have h := List.all_eq_true.1 all_pat (b0 + 2 * b1 + 4 * b2 + 8 * b3 + 16 * b4 + 32 * b5 + 64 * b6 + 128 * b7) (List.mem_range.2 (by omega))
  have e : pat (b0 + 2 * b1 + 4 * b2 + 8 * b3 + 16 * b4 + 32 * b5 + 64 * b6 + 128 * b7) = [b0, b1, b2, b3, b4, b5, b6, b7] := by
    unfold pat
    congr 1
    · omega
    congr 1
    · omega
    congr 1
    · omega
    congr 1
    · omega
    congr 1
    · omega
    congr 1
    · omega
    congr 1
    · omega
    congr 1
    omega
  rw [e] at h
  simpa using h
theorem sel_same (r0 r1 r2 r3 r4 r5 r6 r7 : Nat) : selR [r0, r1, r2, r3, r4, r5, r6, r7] = selG (gapS [r0, r1, r2, r3, r4, r5, r6, r7]) := by
  have h := sel_bits (z01_le r0) (z01_le r1) (z01_le r2) (z01_le r3) (z01_le r4) (z01_le r5) (z01_le r6) (z01_le r7)
  have e : [z01 r0, z01 r1, z01 r2, z01 r3, z01 r4, z01 r5, z01 r6, z01 r7] = [r0, r1, r2, r3, r4, r5, r6, r7].map z01 := rfl
  rw [e, selR, bR_map, gapS, gapN_map] at h
  exact h
/-- the text, group by group -/
def tR (row : List Nat) (f t : Nat) : Nat → List UInt8
  | 0 => []
  | k + 1 => if f ≤ k ∧ k < t then (if k = f then tR row f t k ++ [58, 58] else tR row f t k)
    else (if 0 < k ∧ k ≠ t then (if k = f then tR row f t k ++ [58, 58] else tR row f t k) ++ [58] else (if k = f then tR row f t k ++ [58, 58] else tR row f t k)) ++ hexT (row.getD k 0)
theorem tR_len (row : List Nat) (f t : Nat) : ∀ k, (tR row f t k).length ≤ 8 * k
  | 0 => by simp [tR]
  | k + 1 => by
    have ih := tR_len row f t k
    have hh := (hexT_len (row.getD k 0)).2
    unfold tR
    generalize hexT (row.getD k 0) = H at *
    repeat' split
    all_goals simp
    all_goals omega
def textR (row : List Nat) : List UInt8 := tR row (selR row).1 (selR row).2 8
theorem selG_cases (row : List Nat) : (gapS row).1 = (gapS row).2 ∨ ((gapS row).1 + 2 ≤ (gapS row).2 ∧ (gapS row).2 ≤ 8) := by
  obtain ⟨_, _, h⟩ := gapN_inv row 8
  unfold gapS
  rcases h with ⟨h1, h2⟩ | ⟨h1, h2, _⟩
  · left; dsimp only; omega
  · right; exact ⟨h1, h2⟩
set_option maxRecDepth 100000 in
set_option maxHeartbeats 8000000 in
theorem tR_all (r0 r1 r2 r3 r4 r5 r6 r7 : Nat) : tR [r0, r1, r2, r3, r4, r5, r6, r7] 8 8 8 = joinS [r0, r1, r2, r3, r4, r5, r6, r7] := by
  simp [tR, joinS]
set_option maxRecDepth 100000 in
set_option maxHeartbeats 16000000 in
theorem tR_gap (r0 r1 r2 r3 r4 r5 r6 r7 f t : Nat) (h1 : f + 2 ≤ t) (h2 : t ≤ 8) :
    tR [r0, r1, r2, r3, r4, r5, r6, r7] f t 8 = joinS ([r0, r1, r2, r3, r4, r5, r6, r7].take f) ++ [58, 58] ++ joinS ([r0, r1, r2, r3, r4, r5, r6, r7].drop t) := by
  have hf : f = 0 ∨ f = 1 ∨ f = 2 ∨ f = 3 ∨ f = 4 ∨ f = 5 ∨ f = 6 := by omega
  have ht : t = 2 ∨ t = 3 ∨ t = 4 ∨ t = 5 ∨ t = 6 ∨ t = 7 ∨ t = 8 := by omega
  rcases hf with rfl | rfl | rfl | rfl | rfl | rfl | rfl <;> rcases ht with rfl | rfl | rfl | rfl | rfl | rfl | rfl <;> first | (exfalso; omega) | simp [tR, joinS]
theorem textR_eq (a : List UInt8) (ha : a.length = 16) : textR (pairs a) = textG a := by
  have hl : (pairs a).length = 8 := by
    match a, ha with
    | [a0, a1, a2, a3, a4, a5, a6, a7, a8, a9, b0, b1, b2, b3, b4, b5], _ => rfl
  unfold textG
  generalize pairs a = row at *
  match row, hl with
  | [r0, r1, r2, r3, r4, r5, r6, r7], _ =>
    unfold textR
    rw [sel_same]
    unfold selG
    rcases selG_cases [r0, r1, r2, r3, r4, r5, r6, r7] with h | ⟨h1, h2⟩
    · rw [if_pos h, if_pos h]
      exact tR_all r0 r1 r2 r3 r4 r5 r6 r7
    · rw [if_neg (by omega), if_neg (by omega)]
      exact tR_gap r0 r1 r2 r3 r4 r5 r6 r7 _ _ h1 h2
end Go.Proofs.YtlpondbcnfaggaaGreatDoor.Ad

/-
  hagioscoperef03.Print, by groups: what its loops keep.
-/
namespace Go.Proofs.YtlpondbcnfaggaaGreatDoor.Ad
open Go.RowKit Go.Proofs.YtlpondbcnfaggaaGreatDoor.Wd Go.Proofs.YtlpondbcnfaggaaGreatDoor.Asc

theorem go_ldw {ops : Array Oper} {rest : List Oper} {o : Oper} {a : Act} {w : World} {Q : Exit → Act → World → Prop} {x : Operand} {g t n : Nat} {C : Array Value} {d : TypeDesc} (ty : TypeId) (hb : Blk w g t C) (hu : Tryz.prog.underlying ty = some d)
    (hd : d.isRow = true) (hi : (Tryz.prog.info? ty).map (·.size) = some n) (hn : C.size = n) (hw : Region.wanted o (yielded ops a.tmps) = true) (ho : o.op = .load ty x)
    (hx : a.eval x = .pointer (some ⟨g, 0, none⟩)) (h : wpList Tryz.prog ops Q rest (a.put o.dst (.agg C)) w) : wpList Tryz.prog ops Q (o :: rest) a w := by
  show if Region.wanted o (yielded ops a.tmps) = true then _ else _
  rw [if_pos hw]
  exact .inl (wp_load_row ty x ho g hx t C (0, 0) d hb hu (by cases d <;> first | rfl | cases hd) (by rw [hi, hn]) h)
theorem pairs_len {a : List UInt8} (ha : a.length = 16) : (pairs a).length = 8 := by
  match a, ha with
  | [a0, a1, a2, a3, a4, a5, a6, a7, a8, a9, b0, b1, b2, b3, b4, b5], _ => rfl
theorem pairs_lt : ∀ (a : List UInt8) (n : Nat), n ∈ pairs a → n < 65536
  | [], n, h => by cases h
  | [c], n, h => by cases h
  | c :: d :: r, n, h => by
    have hc := c.toNat_lt
    have hd := d.toNat_lt
    rw [pairs] at h
    rcases List.mem_cons.1 h with rfl | h
    · omega
    · exact pairs_lt r n h
theorem pairs_D {a : List UInt8} (k : Nat) : (pairs a).getD k 0 < 65536 := by
  rw [List.getD_eq_getElem?_getD]
  cases h : (pairs a)[k]? with
  | none => simp
  | some n => exact pairs_lt a n (List.mem_of_getElem? h)
theorem pairs_some {a : List UInt8} (ha : a.length = 16) {k : Nat} (hk : k < 8) : (pairs a)[k]? = some ((pairs a).getD k 0) := by
  rw [List.getD_eq_getElem?_getD, List.getElem?_eq_getElem (by rw [pairs_len ha]; exact hk)]
  rfl
def RPrAt (a : List UInt8) (w : World) (f m k : Value) (w' : World) : Prop :=
  ∃ K : Nat, K ≤ 8 ∧ k = .int .i64 K ∧ f = .int .i64 ((bR (pairs a) K).1 : Nat) ∧ m = .int .i64 ((bR (pairs a) K).2 : Nat) ∧ Blk w' w.heap.size 48 (cA a) ∧ Below w.heap.size w w'
def RPrIn (a : List UInt8) (w : World) (K : Nat) (n : Value) (w' : World) : Prop :=
  ∃ N : Nat, K + N ≤ 8 ∧ n = .int .i64 N ∧ (∀ j, j < N → ((pairs a).drop K)[j]? = some 0) ∧ Blk w' w.heap.size 48 (cA a) ∧ Below w.heap.size w w'
def RPrTx (a : List UInt8) (w : World) (F T : Nat) (s k : Value) (w' : World) : Prop :=
  ∃ K : Nat, K ≤ 8 ∧ k = .int .i64 K ∧ s = .string (str (tR (pairs a) F T K)) ∧ Blk w' w.heap.size 48 (cA a) ∧ Below w.heap.size w w'
theorem bR_bd (row : List Nat) (hl : row.length = 8) : ∀ k, k ≤ 8 → (bR row k).1 + (bR row k).2 ≤ 8
  | 0, _ => by simp [bR]
  | k + 1, h => by
    have ih := bR_bd row hl k (by omega)
    unfold bR
    split
    · show k + lzS (row.drop k) ≤ 8
      have hz : ∀ l : List Nat, lzS l ≤ l.length := fun l => by
        induction l with
        | nil => simp [lzS]
        | cons x r ih2 => unfold lzS; split <;> simp <;> omega
      have := hz (row.drop k)
      rw [List.length_drop] at this
      omega
    · exact ih
end Go.Proofs.YtlpondbcnfaggaaGreatDoor.Ad

/-
  Contract of hagioscoperef03.Print, by groups, where no two groups of zeros stand side by side.
-/
namespace Go.Proofs.YtlpondbcnfaggaaGreatDoor.Ad
open Go.RowKit Go.Proofs.YtlpondbcnfaggaaGreatDoor.Wd Go.Proofs.YtlpondbcnfaggaaGreatDoor.Asc

set_option linter.unusedSimpArgs false in
set_option maxRecDepth 100000 in
set_option maxHeartbeats 8000000 in
theorem rprint_lo (a : List UInt8) (ha : a.length = 16) (hf : fourS a = false) (h2 : (bR (pairs a) 8).2 < 2) (w : World) :
    Calls Tryz.prog 152 #[.agg (cA a)] w fun e w' => e = .returned (.string (str (textG a))) ∧ Below w.heap.size w w' := by
  have HF := Lib.hid hf
  have H2 := Lib.hid h2
  have HTX := Lib.hid (textR_eq a ha)
  clear hf h2
  go_enter Tryz.func152, Tryz.ntmps152
  have b0 := Blk.new w 48 (cA a)
  go_wp2_with (refine go_ld 48 b0 und16 rfl info16 (by rw [cA_size, ha]) rfl rfl rfl ?_)
  refine (rfour_any a ha _).mono ?_
  rintro e w1 ⟨rfl, hb1⟩
  rw [HF.out]
  have B0 := Lib.hid (b0.below hb1 b0.lt)
  have HL := Lib.hid (((Below.refl w.heap.size w).alloc (Nat.le_refl _) (.cells (cA a) 48)).trans (hb1.mono (by simp)))
  clear b0 hb1
  go_wp2_with fail
  go_loopw [3, 4, 5] (fun f m k w' => RPrAt a w f m k w') (fun _ _ k _ => 8 - (intOf k).toNat)
  case atStart => exact ⟨0, by omega, rfl, rfl, rfl, B0.out, HL.out⟩
  case round =>
    obtain ⟨K, hK, rfl, rfl, rfl, b0, hbel⟩ := hrel
    have B0 := Lib.hid b0
    have HL := Lib.hid hbel
    have hsz := hbel.size
    have hbd := bR_bd (pairs a) (pairs_len ha) K hK
    clear b0 hbel
    by_cases hlt : K < 8
    · have hKi : (K : Int) < 8 := by omega
      go_wp2_with fail
      go_loopw [6] (fun n w' => RPrIn a w K n w') (fun n _ => 8 - (intOf n).toNat)
      case atStart => exact ⟨0, by omega, rfl, fun j hj => absurd hj (by omega), B0.out, HL.out⟩
      case round =>
        obtain ⟨N, hN, rfl, hz, b0, hbel⟩ := hrel
        have B0 := Lib.hid b0
        have HL := Lib.hid hbel
        have hsz := hbel.size
        have HN := Lib.hid hz
        clear b0 hbel hz
        by_cases hkn : K + N < 8
        · have hg : ((pairs a).drop K)[N]? = some ((pairs a).getD (K + N) 0) := by rw [List.getElem?_drop]; exact pairs_some ha hkn
          have hG := rgroup_any a ha (K + N) hkn
          rw [show (((K + N : Nat)) : Int) = (K : Int) + (N : Int) by omega] at hG
          have HG := Lib.hid hG
          clear hG
          have hkni : (K : Int) + (N : Int) < 8 := by omega
          go_wp2_with (refine go_ldw 48 B0.out und16 rfl info16 (by rw [cA_size, ha]) (by rfl) rfl rfl ?_)
          refine (HG.out _).mono ?_
          rintro e w1 ⟨rfl, hb1⟩
          have B1 := Lib.hid (B0.out.below hb1 B0.out.lt)
          have HL1 := Lib.hid (HL.out.trans (hb1.mono hsz))
          have hsz1 := HL1.out.size
          clear hb1 HG
          by_cases h0 : (pairs a).getD (K + N) 0 = 0
          · rw [h0] at hg ⊢
            have HNN := Lib.hid (show ∀ j, j < N + 1 → ((pairs a).drop K)[j]? = some 0 from fun j hj => by
              rcases Nat.lt_or_ge j N with h | h
              · exact HN.out j h
              · rw [show j = N by omega]; exact hg)
            clear hg
            go_wp2
            go_roundw
            case rel => exact ⟨N + 1, by omega, by go_num, HNN.out, B1.out, HL1.out⟩
            case measure => simp [intOf]; omega
          · have HZ := Lib.hid (lz_is ((pairs a).drop K) N HN.out (.inr ⟨_, hg, h0⟩))
            have h0i : ((((pairs a).getD (K + N) 0 : Nat) : Int) == 0) = false := by
              rw [beq_eq_false_iff_ne]
              intro e
              exact h0 (by omega)
            generalize (pairs a).getD (K + N) 0 = G at *
            clear hg h0
            by_cases hbig : (bR (pairs a) K).2 < N
            · have HB := Lib.hid (show bR (pairs a) (K + 1) = (K, N) by rw [bR, HZ.out, if_pos hbig])
              have hbi : (((bR (pairs a) K).2 : Nat) : Int) < (N : Int) := by omega
              go_wp2
              go_roundw
              case rel => exact ⟨K + 1, by omega, by go_num, by rw [HB.out], by rw [HB.out], B1.out, HL1.out⟩
              case measure => simp [intOf]; omega
            · have HB := Lib.hid (show bR (pairs a) (K + 1) = bR (pairs a) K by rw [bR, HZ.out, if_neg hbig])
              have hbi : ¬ (((bR (pairs a) K).2 : Nat) : Int) < (N : Int) := by omega
              go_wp2
              go_roundw
              case rel => exact ⟨K + 1, by omega, by go_num, by rw [HB.out], by rw [HB.out], B1.out, HL1.out⟩
              case measure => simp [intOf]; omega
        · have HZ := Lib.hid (lz_is ((pairs a).drop K) N HN.out (.inl (by rw [List.getElem?_drop]; exact List.getElem?_eq_none (by rw [pairs_len ha]; omega))))
          have B1 := B0
          have HL1 := HL
          have hkni : ¬ (K : Int) + (N : Int) < 8 := by omega
          by_cases hbig : (bR (pairs a) K).2 < N
          · have HB := Lib.hid (show bR (pairs a) (K + 1) = (K, N) by rw [bR, HZ.out, if_pos hbig])
            have hbi : (((bR (pairs a) K).2 : Nat) : Int) < (N : Int) := by omega
            go_wp2
            go_roundw
            case rel => exact ⟨K + 1, by omega, by go_num, by rw [HB.out], by rw [HB.out], B1.out, HL1.out⟩
            case measure => simp [intOf]; omega
          · have HB := Lib.hid (show bR (pairs a) (K + 1) = bR (pairs a) K by rw [bR, HZ.out, if_neg hbig])
            have hbi : ¬ (((bR (pairs a) K).2 : Nat) : Int) < (N : Int) := by omega
            go_wp2
            go_roundw
            case rel => exact ⟨K + 1, by omega, by go_num, by rw [HB.out], by rw [HB.out], B1.out, HL1.out⟩
            case measure => simp [intOf]; omega
    · obtain rfl : K = 8 := by omega
      have h2 := H2.out
      have HS := Lib.hid (show textR (pairs a) = tR (pairs a) (selR (pairs a)).1 (selR (pairs a)).2 8 from rfl)
      have HSel := Lib.hid (show selR (pairs a) = (8, 8) by rw [selR, if_pos h2])
      have h2i : (((bR (pairs a) 8).2 : Nat) : Int) < 2 := by omega
      rw [show ((8 : Nat) : Int) = 8 from rfl]
      go_wp2_with fail
      have hF : (8 : Nat) ≤ 8 := Nat.le_refl _
      have HT8 := Lib.hid (show tR (pairs a) 8 8 8 = textG a by rw [← HTX.out, HS.out, HSel.out])
      go_loopw [7, 8] (fun s k w' => RPrTx a w 8 8 s k w') (fun _ k _ => 8 - (intOf k).toNat)
      case atStart => exact ⟨0, by omega, rfl, rfl, B0.out, HL.out⟩
      case round =>
        obtain ⟨K, hK, rfl, rfl, b0, hbel⟩ := hrel
        have B0 := Lib.hid b0
        have HL := Lib.hid hbel
        have hsz := hbel.size
        clear b0 hbel
        by_cases hlt : K < 8
        · have hG := rgroup_any a ha K hlt
          have HG := Lib.hid hG
          have HD := Lib.hid (pairs_D (a := a) K)
          have hlen := tR_len (pairs a) 8 8 K
          have hss : (str (tR (pairs a) 8 8 K)).size ≤ 64 := by rw [str_size]; omega
          have hhs : (str (hexT ((pairs a).getD K 0))).size ≤ 4 := by rw [str_size]; exact (hexT_len _).2
          clear hG hlen
          have hK8 : ((K : Int) == 8) = false := by rw [beq_eq_false_iff_ne]; omega
          have hK9 : ¬ (8 : Int) ≤ (K : Int) := by omega
          by_cases hK0 : K = 0
          · skip
            have HT := Lib.hid (show tR (pairs a) 8 8 (K + 1) = tR (pairs a) 8 8 K ++ hexT ((pairs a).getD K 0) by rw [tR, if_neg (by omega), if_neg (by omega), if_neg (by omega)])
            have HV := Lib.hid (show str (tR (pairs a) 8 8 K) ++ str (hexT ((pairs a).getD K 0)) = str (tR (pairs a) 8 8 (K + 1)) by rw [HT.out]; rw [str_cat])
            subst hK0
            generalize str (tR (pairs a) 8 8 0) = sx at *
            have hX2 : (sx ++ (⟨#[58]⟩ : ByteArray)).size ≤ 65 := by rw [ByteArray.size_append]; show sx.size + 1 ≤ 65; omega
            go_wp2_with (refine go_ld 48 B0.out und16 rfl info16 (by rw [cA_size, ha]) rfl rfl rfl ?_)
            refine (Hid.out (show Hid (∀ w, Calls Tryz.prog 179 #[.agg (cA a), .int .i64 (0 : Int)] w fun e w1 => e = .returned (.int .i64 (((pairs a).getD 0 0 : Nat) : Int)) ∧ Below w.heap.size w w1) from HG) _).mono ?_
            rintro e w1 ⟨rfl, hb1⟩
            have B1 := Lib.hid (B0.out.below hb1 B0.out.lt)
            have HL1 := Lib.hid (HL.out.trans (hb1.mono hsz))
            clear hb1
            go_wp2_with fail
            refine (rhex_text ((pairs a).getD 0 0) _ _ rfl HD.out).mono ?_
            rintro e w2 ⟨rfl, rfl⟩
            generalize str (hexT ((pairs a).getD 0 0)) = sh at *
            go_wp2
            go_roundw
            case rel => exact ⟨0 + 1, by omega, by first | rfl | go_num, by rw [← HV.out], B1.out, HL1.out⟩
            case measure => simp [intOf]
          · have hKp : (0 : Int) < (K : Int) := by omega
            have hKn : ((K : Int) != 8) = true := by simp; omega
            have HT := Lib.hid (show tR (pairs a) 8 8 (K + 1) = tR (pairs a) 8 8 K ++ [58] ++ hexT ((pairs a).getD K 0) by rw [tR, if_neg (by omega), if_pos (by omega), if_neg (by omega)])
            have HV := Lib.hid (show str (tR (pairs a) 8 8 K) ++ (⟨#[58]⟩ : ByteArray) ++ str (hexT ((pairs a).getD K 0)) = str (tR (pairs a) 8 8 (K + 1)) by rw [HT.out]; rw [show (⟨#[58]⟩ : ByteArray) = str [58] from rfl, str_cat, str_cat])
            generalize str (tR (pairs a) 8 8 K) = sx at *
            have hX2 : (sx ++ (⟨#[58]⟩ : ByteArray)).size ≤ 65 := by rw [ByteArray.size_append]; show sx.size + 1 ≤ 65; omega
            go_wp2_with (refine go_ld 48 B0.out und16 rfl info16 (by rw [cA_size, ha]) rfl rfl rfl ?_)
            refine (HG.out _).mono ?_
            rintro e w1 ⟨rfl, hb1⟩
            have B1 := Lib.hid (B0.out.below hb1 B0.out.lt)
            have HL1 := Lib.hid (HL.out.trans (hb1.mono hsz))
            clear hb1
            go_wp2_with fail
            refine (rhex_text ((pairs a).getD K 0) _ _ rfl HD.out).mono ?_
            rintro e w2 ⟨rfl, rfl⟩
            generalize str (hexT ((pairs a).getD K 0)) = sh at *
            go_wp2
            go_roundw
            case rel => exact ⟨K + 1, by omega, by go_num, by rw [← HV.out], B1.out, HL1.out⟩
            case measure => simp [intOf]; omega
        · obtain rfl : K = 8 := by omega
          go_wp2
          go_ret
          exact ⟨by rw [HT8.out]; rfl, HL.out⟩
end Go.Proofs.YtlpondbcnfaggaaGreatDoor.Ad

/-
  Contract of hagioscoperef03.Print, by groups, where two groups of zeros stand side by side.
-/
namespace Go.Proofs.YtlpondbcnfaggaaGreatDoor.Ad
open Go.RowKit Go.Proofs.YtlpondbcnfaggaaGreatDoor.Wd Go.Proofs.YtlpondbcnfaggaaGreatDoor.Asc

set_option linter.unusedSimpArgs false in
set_option maxRecDepth 100000 in
set_option maxHeartbeats 8000000 in
theorem rprint_hi (a : List UInt8) (ha : a.length = 16) (hf : fourS a = false) (h2 : ¬ (bR (pairs a) 8).2 < 2) (w : World) :
    Calls Tryz.prog 152 #[.agg (cA a)] w fun e w' => e = .returned (.string (str (textG a))) ∧ Below w.heap.size w w' := by
  have HF := Lib.hid hf
  have H2 := Lib.hid h2
  have HTX := Lib.hid (textR_eq a ha)
  clear hf h2
  go_enter Tryz.func152, Tryz.ntmps152
  have b0 := Blk.new w 48 (cA a)
  go_wp2_with (refine go_ld 48 b0 und16 rfl info16 (by rw [cA_size, ha]) rfl rfl rfl ?_)
  refine (rfour_any a ha _).mono ?_
  rintro e w1 ⟨rfl, hb1⟩
  rw [HF.out]
  have B0 := Lib.hid (b0.below hb1 b0.lt)
  have HL := Lib.hid (((Below.refl w.heap.size w).alloc (Nat.le_refl _) (.cells (cA a) 48)).trans (hb1.mono (by simp)))
  clear b0 hb1
  go_wp2_with fail
  go_loopw [3, 4, 5] (fun f m k w' => RPrAt a w f m k w') (fun _ _ k _ => 8 - (intOf k).toNat)
  case atStart => exact ⟨0, by omega, rfl, rfl, rfl, B0.out, HL.out⟩
  case round =>
    obtain ⟨K, hK, rfl, rfl, rfl, b0, hbel⟩ := hrel
    have B0 := Lib.hid b0
    have HL := Lib.hid hbel
    have hsz := hbel.size
    have hbd := bR_bd (pairs a) (pairs_len ha) K hK
    clear b0 hbel
    by_cases hlt : K < 8
    · have hKi : (K : Int) < 8 := by omega
      go_wp2_with fail
      go_loopw [6] (fun n w' => RPrIn a w K n w') (fun n _ => 8 - (intOf n).toNat)
      case atStart => exact ⟨0, by omega, rfl, fun j hj => absurd hj (by omega), B0.out, HL.out⟩
      case round =>
        obtain ⟨N, hN, rfl, hz, b0, hbel⟩ := hrel
        have B0 := Lib.hid b0
        have HL := Lib.hid hbel
        have hsz := hbel.size
        have HN := Lib.hid hz
        clear b0 hbel hz
        by_cases hkn : K + N < 8
        · have hg : ((pairs a).drop K)[N]? = some ((pairs a).getD (K + N) 0) := by rw [List.getElem?_drop]; exact pairs_some ha hkn
          have hG := rgroup_any a ha (K + N) hkn
          rw [show (((K + N : Nat)) : Int) = (K : Int) + (N : Int) by omega] at hG
          have HG := Lib.hid hG
          clear hG
          have hkni : (K : Int) + (N : Int) < 8 := by omega
          go_wp2_with (refine go_ldw 48 B0.out und16 rfl info16 (by rw [cA_size, ha]) (by rfl) rfl rfl ?_)
          refine (HG.out _).mono ?_
          rintro e w1 ⟨rfl, hb1⟩
          have B1 := Lib.hid (B0.out.below hb1 B0.out.lt)
          have HL1 := Lib.hid (HL.out.trans (hb1.mono hsz))
          have hsz1 := HL1.out.size
          clear hb1 HG
          by_cases h0 : (pairs a).getD (K + N) 0 = 0
          · rw [h0] at hg ⊢
            have HNN := Lib.hid (show ∀ j, j < N + 1 → ((pairs a).drop K)[j]? = some 0 from fun j hj => by
              rcases Nat.lt_or_ge j N with h | h
              · exact HN.out j h
              · rw [show j = N by omega]; exact hg)
            clear hg
            go_wp2
            go_roundw
            case rel => exact ⟨N + 1, by omega, by go_num, HNN.out, B1.out, HL1.out⟩
            case measure => simp [intOf]; omega
          · have HZ := Lib.hid (lz_is ((pairs a).drop K) N HN.out (.inr ⟨_, hg, h0⟩))
            have h0i : ((((pairs a).getD (K + N) 0 : Nat) : Int) == 0) = false := by
              rw [beq_eq_false_iff_ne]
              intro e
              exact h0 (by omega)
            generalize (pairs a).getD (K + N) 0 = G at *
            clear hg h0
            by_cases hbig : (bR (pairs a) K).2 < N
            · have HB := Lib.hid (show bR (pairs a) (K + 1) = (K, N) by rw [bR, HZ.out, if_pos hbig])
              have hbi : (((bR (pairs a) K).2 : Nat) : Int) < (N : Int) := by omega
              go_wp2
              go_roundw
              case rel => exact ⟨K + 1, by omega, by go_num, by rw [HB.out], by rw [HB.out], B1.out, HL1.out⟩
              case measure => simp [intOf]; omega
            · have HB := Lib.hid (show bR (pairs a) (K + 1) = bR (pairs a) K by rw [bR, HZ.out, if_neg hbig])
              have hbi : ¬ (((bR (pairs a) K).2 : Nat) : Int) < (N : Int) := by omega
              go_wp2
              go_roundw
              case rel => exact ⟨K + 1, by omega, by go_num, by rw [HB.out], by rw [HB.out], B1.out, HL1.out⟩
              case measure => simp [intOf]; omega
        · have HZ := Lib.hid (lz_is ((pairs a).drop K) N HN.out (.inl (by rw [List.getElem?_drop]; exact List.getElem?_eq_none (by rw [pairs_len ha]; omega))))
          have B1 := B0
          have HL1 := HL
          have hkni : ¬ (K : Int) + (N : Int) < 8 := by omega
          by_cases hbig : (bR (pairs a) K).2 < N
          · have HB := Lib.hid (show bR (pairs a) (K + 1) = (K, N) by rw [bR, HZ.out, if_pos hbig])
            have hbi : (((bR (pairs a) K).2 : Nat) : Int) < (N : Int) := by omega
            go_wp2
            go_roundw
            case rel => exact ⟨K + 1, by omega, by go_num, by rw [HB.out], by rw [HB.out], B1.out, HL1.out⟩
            case measure => simp [intOf]; omega
          · have HB := Lib.hid (show bR (pairs a) (K + 1) = bR (pairs a) K by rw [bR, HZ.out, if_neg hbig])
            have hbi : ¬ (((bR (pairs a) K).2 : Nat) : Int) < (N : Int) := by omega
            go_wp2
            go_roundw
            case rel => exact ⟨K + 1, by omega, by go_num, by rw [HB.out], by rw [HB.out], B1.out, HL1.out⟩
            case measure => simp [intOf]; omega
    · obtain rfl : K = 8 := by omega
      have h2 := H2.out
      have HS := Lib.hid (show textR (pairs a) = tR (pairs a) (selR (pairs a)).1 (selR (pairs a)).2 8 from rfl)
      have HSel := Lib.hid (show selR (pairs a) = ((bR (pairs a) 8).1, (bR (pairs a) 8).1 + (bR (pairs a) 8).2) by rw [selR, if_neg h2])
      have h2i : ¬ (((bR (pairs a) 8).2 : Nat) : Int) < 2 := by omega
      have HT8 := Lib.hid (show tR (pairs a) (bR (pairs a) 8).1 ((bR (pairs a) 8).1 + (bR (pairs a) 8).2) 8 = textG a by rw [← HTX.out, HS.out, HSel.out])
      have hM2 : 2 ≤ (bR (pairs a) 8).2 := by omega
      clear HSel HS
      generalize (bR (pairs a) 8).1 = F at *
      generalize (bR (pairs a) 8).2 = M at *
      obtain ⟨T, hT⟩ : ∃ T, T = F + M := ⟨_, rfl⟩
      rw [← hT] at HT8
      have hTi : (F : Int) + (M : Int) = (T : Int) := by omega
      have hFT : F + 2 ≤ T ∧ T ≤ 8 := by omega
      clear hT
      go_wp2_with fail
      go_loopw [7, 8] (fun s k w' => RPrTx a w F T s k w') (fun _ k _ => 8 - (intOf k).toNat)
      case atStart => exact ⟨0, by omega, rfl, rfl, B0.out, HL.out⟩
      case round =>
        obtain ⟨K, hK, rfl, rfl, b0, hbel⟩ := hrel
        have B0 := Lib.hid b0
        have HL := Lib.hid hbel
        have hsz := hbel.size
        clear b0 hbel
        by_cases hlt : K < 8
        · have hG := rgroup_any a ha K hlt
          have HG := Lib.hid hG
          have HD := Lib.hid (pairs_D (a := a) K)
          have hlen := tR_len (pairs a) F T K
          have hss : (str (tR (pairs a) F T K)).size ≤ 64 := by rw [str_size]; omega
          have hhs : (str (hexT ((pairs a).getD K 0))).size ≤ 4 := by rw [str_size]; exact (hexT_len _).2
          clear hG hlen
          by_cases hKF : K = F
          · subst hKF
            have HT := Lib.hid (show tR (pairs a) K T (K + 1) = tR (pairs a) K T K ++ [58, 58] by rw [tR, if_pos (by omega), if_pos rfl])
            have HV := Lib.hid (show str (tR (pairs a) K T K) ++ (⟨#[58, 58]⟩ : ByteArray) = str (tR (pairs a) K T (K + 1)) by rw [HT.out, show (⟨#[58, 58]⟩ : ByteArray) = str [58, 58] from rfl, str_cat])
            have hK3 : (K : Int) < (T : Int) := by omega
            generalize str (tR (pairs a) K T K) = sx at *
            go_wp2
            go_roundw
            case rel => exact ⟨K + 1, by omega, by go_num, by rw [← HV.out], B0.out, HL.out⟩
            case measure => simp [intOf]; omega
          · have hK1 : ((K : Int) == (F : Int)) = false := by rw [beq_eq_false_iff_ne]; omega
            by_cases hlo : K < F
            · have hK2 : ¬ (F : Int) ≤ (K : Int) := by omega
              by_cases hK0 : K = 0
              · skip
                have HT := Lib.hid (show tR (pairs a) F T (K + 1) = tR (pairs a) F T K ++ hexT ((pairs a).getD K 0) by rw [tR, if_neg (by omega), if_neg (by omega), if_neg (by omega)])
                have HV := Lib.hid (show str (tR (pairs a) F T K) ++ str (hexT ((pairs a).getD K 0)) = str (tR (pairs a) F T (K + 1)) by rw [HT.out]; rw [str_cat])
                subst hK0
                generalize str (tR (pairs a) F T 0) = sx at *
                have hX2 : (sx ++ (⟨#[58]⟩ : ByteArray)).size ≤ 65 := by rw [ByteArray.size_append]; show sx.size + 1 ≤ 65; omega
                go_wp2_with (refine go_ld 48 B0.out und16 rfl info16 (by rw [cA_size, ha]) rfl rfl rfl ?_)
                refine (Hid.out (show Hid (∀ w, Calls Tryz.prog 179 #[.agg (cA a), .int .i64 (0 : Int)] w fun e w1 => e = .returned (.int .i64 (((pairs a).getD 0 0 : Nat) : Int)) ∧ Below w.heap.size w w1) from HG) _).mono ?_
                rintro e w1 ⟨rfl, hb1⟩
                have B1 := Lib.hid (B0.out.below hb1 B0.out.lt)
                have HL1 := Lib.hid (HL.out.trans (hb1.mono hsz))
                clear hb1
                go_wp2_with fail
                refine (rhex_text ((pairs a).getD 0 0) _ _ rfl HD.out).mono ?_
                rintro e w2 ⟨rfl, rfl⟩
                generalize str (hexT ((pairs a).getD 0 0)) = sh at *
                go_wp2
                go_roundw
                case rel => exact ⟨0 + 1, by omega, by first | rfl | go_num, by rw [← HV.out], B1.out, HL1.out⟩
                case measure => simp [intOf]
              · have hK4 : (0 : Int) < (K : Int) := by omega
                have hK5 : ((K : Int) != (T : Int)) = true := by simp; omega
                have HT := Lib.hid (show tR (pairs a) F T (K + 1) = tR (pairs a) F T K ++ [58] ++ hexT ((pairs a).getD K 0) by rw [tR, if_neg (by omega), if_pos (by omega), if_neg (by omega)])
                have HV := Lib.hid (show str (tR (pairs a) F T K) ++ (⟨#[58]⟩ : ByteArray) ++ str (hexT ((pairs a).getD K 0)) = str (tR (pairs a) F T (K + 1)) by rw [HT.out]; rw [show (⟨#[58]⟩ : ByteArray) = str [58] from rfl, str_cat, str_cat])
                generalize str (tR (pairs a) F T K) = sx at *
                have hX2 : (sx ++ (⟨#[58]⟩ : ByteArray)).size ≤ 65 := by rw [ByteArray.size_append]; show sx.size + 1 ≤ 65; omega
                go_wp2_with (refine go_ld 48 B0.out und16 rfl info16 (by rw [cA_size, ha]) rfl rfl rfl ?_)
                refine (HG.out _).mono ?_
                rintro e w1 ⟨rfl, hb1⟩
                have B1 := Lib.hid (B0.out.below hb1 B0.out.lt)
                have HL1 := Lib.hid (HL.out.trans (hb1.mono hsz))
                clear hb1
                go_wp2_with fail
                refine (rhex_text ((pairs a).getD K 0) _ _ rfl HD.out).mono ?_
                rintro e w2 ⟨rfl, rfl⟩
                generalize str (hexT ((pairs a).getD K 0)) = sh at *
                go_wp2
                go_roundw
                case rel => exact ⟨K + 1, by omega, by go_num, by rw [← HV.out], B1.out, HL1.out⟩
                case measure => simp [intOf]; omega
            · have hK2 : (F : Int) ≤ (K : Int) := by omega
              by_cases hin : K < T
              · have hK3 : (K : Int) < (T : Int) := by omega
                have HT := Lib.hid (show tR (pairs a) F T (K + 1) = tR (pairs a) F T K by rw [tR, if_pos (by omega), if_neg hKF])
                go_wp2
                go_roundw
                case rel => exact ⟨K + 1, by omega, by go_num, by rw [HT.out], B0.out, HL.out⟩
                case measure => simp [intOf]; omega
              · have hK3 : ¬ (K : Int) < (T : Int) := by omega
                have hK4 : (0 : Int) < (K : Int) := by omega
                by_cases hKT : K = T
                · subst hKT
                  have HT := Lib.hid (show tR (pairs a) F K (K + 1) = tR (pairs a) F K K ++ hexT ((pairs a).getD K 0) by rw [tR, if_neg (by omega), if_neg (by omega), if_neg (by omega)])
                  have HV := Lib.hid (show str (tR (pairs a) F K K) ++ str (hexT ((pairs a).getD K 0)) = str (tR (pairs a) F K (K + 1)) by rw [HT.out]; rw [str_cat])
                  generalize str (tR (pairs a) F K K) = sx at *
                  have hX2 : (sx ++ (⟨#[58]⟩ : ByteArray)).size ≤ 65 := by rw [ByteArray.size_append]; show sx.size + 1 ≤ 65; omega
                  go_wp2_with (refine go_ld 48 B0.out und16 rfl info16 (by rw [cA_size, ha]) rfl rfl rfl ?_)
                  refine (HG.out _).mono ?_
                  rintro e w1 ⟨rfl, hb1⟩
                  have B1 := Lib.hid (B0.out.below hb1 B0.out.lt)
                  have HL1 := Lib.hid (HL.out.trans (hb1.mono hsz))
                  clear hb1
                  go_wp2_with fail
                  refine (rhex_text ((pairs a).getD K 0) _ _ rfl HD.out).mono ?_
                  rintro e w2 ⟨rfl, rfl⟩
                  generalize str (hexT ((pairs a).getD K 0)) = sh at *
                  go_wp2
                  go_roundw
                  case rel => exact ⟨K + 1, by omega, by go_num, by rw [← HV.out], B1.out, HL1.out⟩
                  case measure => simp [intOf]; omega
                · have hK5 : ((K : Int) != (T : Int)) = true := by simp; omega
                  have HT := Lib.hid (show tR (pairs a) F T (K + 1) = tR (pairs a) F T K ++ [58] ++ hexT ((pairs a).getD K 0) by rw [tR, if_neg (by omega), if_pos (by omega), if_neg (by omega)])
                  have HV := Lib.hid (show str (tR (pairs a) F T K) ++ (⟨#[58]⟩ : ByteArray) ++ str (hexT ((pairs a).getD K 0)) = str (tR (pairs a) F T (K + 1)) by rw [HT.out]; rw [show (⟨#[58]⟩ : ByteArray) = str [58] from rfl, str_cat, str_cat])
                  generalize str (tR (pairs a) F T K) = sx at *
                  have hX2 : (sx ++ (⟨#[58]⟩ : ByteArray)).size ≤ 65 := by rw [ByteArray.size_append]; show sx.size + 1 ≤ 65; omega
                  go_wp2_with (refine go_ld 48 B0.out und16 rfl info16 (by rw [cA_size, ha]) rfl rfl rfl ?_)
                  refine (HG.out _).mono ?_
                  rintro e w1 ⟨rfl, hb1⟩
                  have B1 := Lib.hid (B0.out.below hb1 B0.out.lt)
                  have HL1 := Lib.hid (HL.out.trans (hb1.mono hsz))
                  clear hb1
                  go_wp2_with fail
                  refine (rhex_text ((pairs a).getD K 0) _ _ rfl HD.out).mono ?_
                  rintro e w2 ⟨rfl, rfl⟩
                  generalize str (hexT ((pairs a).getD K 0)) = sh at *
                  go_wp2
                  go_roundw
                  case rel => exact ⟨K + 1, by omega, by go_num, by rw [← HV.out], B1.out, HL1.out⟩
                  case measure => simp [intOf]; omega
        · obtain rfl : K = 8 := by omega
          go_wp2
          go_ret
          exact ⟨by rw [HT8.out]; rfl, HL.out⟩
end Go.Proofs.YtlpondbcnfaggaaGreatDoor.Ad
