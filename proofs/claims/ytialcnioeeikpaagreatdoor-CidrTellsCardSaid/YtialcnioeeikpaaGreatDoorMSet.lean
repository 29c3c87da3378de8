/-
  Contract of package cidr's compare over this seat's translation.
-/
import Derived.Test.YtialcnioeeikpaaGreatDoorAdHas
import Derived.Test.YtialcnioeeikpaaGreatDoorShelf
import Derived.Lib.BytesEntry
import Derived.Deep.Cut
import Derived.Sort.Grow
import Derived.Sort.Statements
import Derived.Shelf.SlSortCmp.WholeK
import Derived.Test.YtialcnioeeikpaaGreatDoorAdShort
import Derived.Maps.OwnSet
import Derived.Maps.Views
import Derived.WideKeyElems3
import Derived.DeepKeys4
import Derived.WalkArith
import Derived.MapViews
import Derived.Sort.KeysCollected
import Derived.Shelf.SlSortCmp.NoneTotal
import Derived.Maps.RangeWalk
import Derived.Test.YtialcnioeeikpaaGreatDoorAdCParse
namespace Go.Proofs.YtialcnioeeikpaaGreatDoor.Ad
open Go.RowKit Go.Proofs.YtialcnioeeikpaaGreatDoor.Wd

/-- which of two stands first -/
def cmpC (c d : C) : Int := if Lib.compareBytes c.a d.a ≠ 0 then Lib.compareBytes c.a d.a else Lib.compareInt c.n d.n

theorem C_cell16' {w : World} {g t : Nat} {c : C} (h : Blk w g t c.cells) (hc : c.a.length = 16) : w.cell? ⟨g, 16, none⟩ = some (.int .i64 c.n) := by
  rw [h.cell]; simp [C.cells, cellsOf_length, hc]
theorem bytes_src {P : Program} {w : World} {A : Option Addr} {n c : Nat} {xs : List UInt8} (h : Src w A n xs) : (Extern.Bytes.bytesOf (.slice A n c)).run P w = .ok ⟨xs.toArray⟩ w := by
  obtain ⟨hl, hc⟩ := h
  cases A with
  | none =>
    have : xs = [] := by
      cases xs with
      | nil => rfl
      | cons x xs => obtain ⟨ad, e, _⟩ := hc (by rw [← hl]; simp); cases e
    subst this
    rfl
  | some a =>
    have hr := Lib.run_loadBytesX (P := P) (w := w) (xs.map fun c => (c.toNat : Int)) a .empty (fun j x hx => by
      simp only [List.getElem?_map, Option.map_eq_some_iff] at hx
      obtain ⟨y, hy, rfl⟩ := hx
      have hj := (List.getElem?_eq_some_iff.1 hy).1
      obtain ⟨ad, e, _, hcc⟩ := hc (by omega)
      injection e with e
      subst e
      exact hcc j y hy)
    rw [List.length_map, hl] at hr
    show (Extern.Bytes.loadBytes a n .empty).run P w = _
    rw [hr]
    congr 2
    simp [Lib.bytesOf, List.map_map, Function.comp_def]

theorem bcmp_any {A A' : Option Addr} {n c n' c' : Nat} {xs ys : List UInt8} (w : World) (hx : Src w A n xs) (hy : Src w A' n' ys) :
    Calls Tryz.prog 59 #[.slice A n c, .slice A' n' c'] w fun e w' => e = .returned (.int .i64 (Lib.compareBytes xs ys)) ∧ w' = w := by
  have hrun : (callFunc 78 #[.slice A n c, .slice A' n' c']).run Tryz.prog w = .ok (.value (.int .i64 (Lib.compareBytes xs ys))) w := by
    rw [run_callFunc_extern Tryz.func78 (by kernel_rfl) (by kernel_rfl) (by kernel_rfl) (e := Extern.BytealgCompare.compare) (by kernel_rfl)]
    have hc : (Extern.BytealgCompare.compare #[.slice A n c, .slice A' n' c']).run Tryz.prog w = .ok (.int .i64 (Lib.compareBytes xs ys)) w := by
      change Sem.run Tryz.prog (do pure (goInt (Extern.BytealgCompare.cmp (← Extern.Bytes.bytesOf (.slice A n c)) (← Extern.Bytes.bytesOf (.slice A' n' c'))))) w = _
      simp only [Sem.run_bind, Sem.run_pure, Result.andThen_ok, bytes_src hx, bytes_src hy]
      rw [Lib.cmp_eq]
      rfl
    rw [hc]
    rfl
  clear hx hy
  generalize Lib.compareBytes xs ys = R at *
  go_enter Tryz.func59, Tryz.ntmps59
  go_wp2
  go_ret
  exact ⟨rfl, rfl⟩

theorem src_cells {w : World} {g t : Nat} {c : C} (h : Blk w g t c.cells) (hc : c.a.length = 16) : Src w (some ⟨g, 0, none⟩) 16 c.a := by
  have := Src.of_blk (off := 0) (xs := c.a) h (fun j x hj => by
    have hjl : j < c.a.length := (List.getElem?_eq_some_iff.1 hj).1
    simp only [Nat.zero_add, C.cells, List.getElem?_toArray]
    rw [List.getElem?_append_left (by rw [cellsOf_length]; exact hjl)]
    exact cellsOf_get hj)
  rwa [hc] at this
theorem two_grow (w : World) (o o' : Obj) : ((w.alloc o).alloc o').drew = Sort.grow (w.drewN 1) #[o, o'] := by
  rw [Sort.alloc_eq_grow, Sort.alloc_eq_grow, Sort.grow_grow]
  rfl

set_option linter.unusedSimpArgs false in
set_option maxRecDepth 100000 in
set_option maxHeartbeats 2000000 in
theorem compare_any (c d : C) (hc : c.a.length = 16) (hd : d.a.length = 16) (w : World) :
    Calls Tryz.prog 39 #[.agg c.cells, .agg d.cells] w fun e w' => e = .returned (.int .i64 (cmpC c d)) ∧ ∃ q os', w' = Sort.grow (w.drewN q) os' := by
  have hcm := fun w => Tryz.cmp_Compare_int c.n d.n w
  have HF := Lib.hid (show cmpC c d = if Lib.compareBytes c.a d.a ≠ 0 then Lib.compareBytes c.a d.a else Lib.compareInt c.n d.n from rfl)
  go_enter Tryz.func39, Tryz.ntmps39
  go_upto_region 1 with fail
  have HW := Lib.hid (two_grow w (.cells c.cells 25) (.cells d.cells 25))
  have b0 : Blk ((w.alloc (.cells c.cells 25)).alloc (.cells d.cells 25)) w.heap.size 25 c.cells := (Blk.new _ _ _).alloc _
  have b1 : Blk ((w.alloc (.cells c.cells 25)).alloc (.cells d.cells 25)) (w.heap.size + 1) 25 d.cells := blk_at _ _ _ _ _ (by rw [alloc_size]) rfl
  generalize (w.alloc (.cells c.cells 25)).alloc (.cells d.cells 25) = w1 at *
  have n0 := C_cell16' b0 hc
  have n1 := C_cell16' b1 hd
  have hx := bcmp_any (c := 16) (c' := 16) w1.drew (src_cells (w := w1.drew) b0 hc) (src_cells (w := w1.drew) b1 hd)
  clear b0 b1
  generalize hG : w.heap.size = G at *
  generalize Lib.compareBytes c.a d.a = R at *
  generalize Lib.compareInt c.n d.n = R2 at *
  refine wp_region_held_drew (S := fun w' => w' = w1.drew) (by kernel_rfl) rfl (fun h0 => ?_)
  refine hd_take 0 (some 6) (.pointer (some ⟨G, 0, none⟩)) rfl rfl (by kernel_rfl) (by kernel_rfl) (by kernel_rfl) (fun _ _ _ h => h) (Or.inl ⟨by rfl, fun w hw => by go_simp⟩) h0 ?_
  simp only [Act.put, List.setIfInBounds_toArray, List.set_cons_zero, List.set_cons_succ]
  refine hd_take 1 (some 7) (.slice (some ⟨G, 0, none⟩) 16 16) rfl rfl (by kernel_rfl) (by kernel_rfl) (by kernel_rfl) (fun _ _ _ h => h) (Or.inl ⟨by rfl, fun w hw => by go_simp⟩) h0 ?_
  simp only [Act.put, List.setIfInBounds_toArray, List.set_cons_zero, List.set_cons_succ]
  refine hd_take 2 (some 8) (.pointer (some ⟨G + 1, 0, none⟩)) rfl rfl (by kernel_rfl) (by kernel_rfl) (by kernel_rfl) (fun _ _ _ h => h) (Or.inl ⟨by rfl, fun w hw => by go_simp⟩) h0 ?_
  simp only [Act.put, List.setIfInBounds_toArray, List.set_cons_zero, List.set_cons_succ]
  refine hd_take 3 (some 9) (.slice (some ⟨G + 1, 0, none⟩) 16 16) rfl rfl (by kernel_rfl) (by kernel_rfl) (by kernel_rfl) (fun _ _ _ h => h) (Or.inl ⟨by rfl, fun w hw => by go_simp⟩) h0 ?_
  simp only [Act.put, List.setIfInBounds_toArray, List.set_cons_zero, List.set_cons_succ]
  refine wpAnyH_ready (rs := [4]) (by kernel_rfl) (by simp) (AllReadyH.cons rfl (fun K hK => ?_) AllReadyH.nil)
  go_simp
  go_wp2_with (go_at_call 59; refine hx.mono ?_; rintro e w2 ⟨rfl, rfl⟩)
  refine hK.out _ _ rfl (fun h2 => ?_)
  clear hK K
  refine hd_take 5 (some 5) (.int .i64 R) rfl rfl (by kernel_rfl) (by kernel_rfl) (by kernel_rfl) (fun _ _ _ h => h) (Or.inl ⟨by rfl, fun w hw => by go_simp⟩) h2 ?_
  simp only [Act.put, List.setIfInBounds_toArray, List.set_cons_zero, List.set_cons_succ]
  refine wpAnyH_done (by kernel_rfl) ?_ _
  by_cases hR : R = 0
  · subst hR
    have HZ := Lib.hid (HF.out.trans (if_neg (by simp)))
    clear HF
    go_wp2_with fail
    refine (hcm _).mono ?_
    rintro e w3 ⟨rfl, rfl⟩
    go_wp2_with fail
    go_ret
    exact ⟨by rw [HZ.out]; rfl, _, _, HW.out⟩
  · have HZ := Lib.hid (HF.out.trans (if_pos hR))
    have hR2 : (R == 0) = false := by simpa using hR
    clear HF
    go_wp2_with fail
    go_ret
    exact ⟨by rw [HZ.out]; rfl, _, _, HW.out⟩
end Go.Proofs.YtialcnioeeikpaaGreatDoor.Ad

/-
  In which order Cidrs stand: compare is a strict weak order, whole. No condition.
-/
set_option linter.unusedSimpArgs false
namespace Go.Proofs.YtialcnioeeikpaaGreatDoor.Ad
open Go Go.RowKit Go.Lib Go.Shelf Go.Proofs.YtialcnioeeikpaaGreatDoor.Wd

/-- the number of bytes, the highest first -/
def numB : List UInt8 → Nat
  | [] => 0
  | c :: r => c.toNat * 256 ^ r.length + numB r
theorem numB_lt : ∀ l : List UInt8, numB l < 256 ^ l.length
  | [] => by simp [numB]
  | c :: r => by
    have h := numB_lt r
    have hc := c.toNat_lt
    have h2 : (c.toNat + 1) * 256 ^ r.length ≤ 256 * 256 ^ r.length := Nat.mul_le_mul_right _ (by omega)
    rw [Nat.add_mul, Nat.one_mul] at h2
    rw [numB, List.length_cons, Nat.pow_succ, Nat.mul_comm (256 ^ r.length) 256]
    omega
theorem cmpB_is : ∀ (a b : List UInt8), a.length = b.length → Lib.compareBytes a b = if numB a < numB b then -1 else if numB b < numB a then 1 else 0
  | [], [], _ => by simp [Lib.compareBytes, numB]
  | [], _ :: _, h => by simp at h
  | _ :: _, [], h => by simp at h
  | x :: a, y :: b, h => by
    have hl : a.length = b.length := by simpa using h
    have ih := cmpB_is a b hl
    have ha := numB_lt a
    have hb := numB_lt b
    rw [hl] at ha
    unfold Lib.compareBytes
    rw [numB, numB, hl]
    generalize 256 ^ b.length = P at *
    by_cases h1 : x < y
    · have h1' : x.toNat + 1 ≤ y.toNat := h1
      have h2 := Nat.mul_le_mul_right P h1'
      rw [Nat.add_mul, Nat.one_mul] at h2
      rw [if_pos h1, if_pos (by omega)]
    · by_cases h2 : y < x
      · have h1' : y.toNat + 1 ≤ x.toNat := h2
        have h3 := Nat.mul_le_mul_right P h1'
        rw [Nat.add_mul, Nat.one_mul] at h3
        rw [if_neg h1, if_pos h2, if_neg (by omega), if_pos (by omega)]
      · have he : x = y := by
          have e1 : ¬ x.toNat < y.toNat := h1
          have e2 : ¬ y.toNat < x.toNat := h2
          exact UInt8.toNat.inj (by omega)
        subst he
        rw [if_neg h1, if_neg h1, ih]
        by_cases g1 : numB a < numB b
        · rw [if_pos g1, if_pos (by omega)]
        · rw [if_neg g1, if_neg (by omega : ¬ x.toNat * P + numB a < x.toNat * P + numB b)]
          by_cases g2 : numB b < numB a
          · rw [if_pos g2, if_pos (by omega)]
          · rw [if_neg g2, if_neg (by omega)]
theorem numB_inj : ∀ (a b : List UInt8), a.length = b.length → numB a = numB b → a = b
  | [], [], _, _ => rfl
  | [], _ :: _, h, _ => by simp at h
  | _ :: _, [], h, _ => by simp at h
  | x :: a, y :: b, h, e => by
    have hl : a.length = b.length := by simpa using h
    have ha := numB_lt a
    have hb := numB_lt b
    rw [hl] at ha
    rw [numB, numB, hl] at e
    have hxy : x = y := by
      apply UInt8.toNat.inj
      generalize 256 ^ b.length = P at *
      rcases Nat.lt_trichotomy x.toNat y.toNat with g | g | g
      · have h2 := Nat.mul_le_mul_right P (show x.toNat + 1 ≤ y.toNat from g)
        rw [Nat.add_mul, Nat.one_mul] at h2
        omega
      · exact g
      · have h2 := Nat.mul_le_mul_right P (show y.toNat + 1 ≤ x.toNat from g)
        rw [Nat.add_mul, Nat.one_mul] at h2
        omega
    subst hxy
    rw [numB_inj a b hl (by omega)]
/-- does c stand ahead of d? -/
def Ahead (c d : C) : Prop := numB c.a < numB d.a ∨ (numB c.a = numB d.a ∧ c.n < d.n)
theorem cmpC_neg (c d : C) (h : c.a.length = d.a.length) : cmpC c d < 0 ↔ Ahead c d := by
  unfold cmpC Ahead
  rw [cmpB_is _ _ h]
  unfold Lib.compareInt
  by_cases h1 : numB c.a < numB d.a
  · simp [h1]
  · by_cases h2 : numB d.a < numB c.a
    · simp [h1, h2]; omega
    · have h3 : numB c.a = numB d.a := by omega
      simp only [h1, h2, if_false, ne_eq, not_true_eq_false, false_or, h3, true_and]
      split
      · omega
      · split <;> omega
/-- a Cidr of sixteen bytes -/
abbrev C16 := { c : C // c.a.length = 16 }
instance : Inhabited C16 := ⟨⟨⟨List.replicate 16 0, 0⟩, rfl⟩⟩
def cf16 (c d : C16) : Int := cmpC c.1 d.1
theorem lt16 (c d : C16) : Go.Proofs.ltOf cf16 c d = true ↔ Ahead c.1 d.1 := by
  unfold Go.Proofs.ltOf cf16
  rw [decide_eq_true_iff]
  exact cmpC_neg _ _ (by rw [c.2, d.2])
theorem lt16_no (c d : C16) : Go.Proofs.ltOf cf16 c d = false ↔ ¬ Ahead c.1 d.1 := by
  rw [← lt16]; simp
theorem swo16 : Sort.SWO (Go.Proofs.ltOf cf16) where
  irrefl x := by rw [lt16_no]; unfold Ahead; omega
  trans x y z h1 h2 := by rw [lt16] at *; unfold Ahead at *; omega
  ntrans x y z h1 h2 := by rw [lt16_no] at *; unfold Ahead at *; omega
theorem cmpLays16 (blk off size : Nat) (w : World) : Go.Proofs.CmpLays Tryz.prog 39 #[] (fun c : C16 => cL c.1) 17 cf16 blk off size w :=
  fun _ _ _ _ x y => compare_any x.1 y.1 x.2 y.2 _
end Go.Proofs.YtialcnioeeikpaaGreatDoor.Ad

/-
  Cidrs as keys of a map; a set of Cidrs, as it lies in memory.
-/
namespace Go.Proofs.YtialcnioeeikpaaGreatDoor.Ad
open Go.RowKit Go.Proofs.YtialcnioeeikpaaGreatDoor.Wd Go.Maps

structure OkC (c : C) : Prop where
  len : c.a.length = 16
  lo : -9223372036854775808 ≤ c.n
  hi : c.n ≤ 9223372036854775807
theorem ofS_ok {a : List UInt8} (ha : a.length = 16) (n : Int) : OkC (ofS a n) :=
  ⟨by rw [ofS_len, ha], by show _ ≤ ((bitN n : Nat) : Int); omega, by have := bitN_le n; show ((bitN n : Nat) : Int) ≤ _; omega⟩

theorem laidOut : laidOutB Tryz.prog = true := by kernel_rfl
theorem rowC : (25 : TypeId) < Tryz.prog.types.size := of_decide_eq_true (by kernel_rfl)
theorem deepC : Tryz.prog.keyTypeAt (Tryz.prog.types.size + 1) 25 = true := by kernel_rfl
theorem wideC : (match Tryz.prog.underlying 25 with | some (.array _ _) | some (.struct _) => true | _ => false) = true := by kernel_rfl
set_option maxRecDepth 100000 in
theorem lawC : Go.WideMaps.KeyLaw Tryz.prog 25 := deep_law_laid laidOut (m := 4) (by omega) rowC (by kernel_rfl) wideC
theorem keyedC : Keyed Tryz.prog 25 := Keyed.of_law lawC

theorem wf8 (c : UInt8) : (Lit.int .u8 (c.toNat : Int)).wf = true := WalkArith.wf_u8 (by have := c.toNat_lt; omega)
theorem kl8 (D : Nat) (c : UInt8) : Tryz.prog.keyLits (D + 1) 5 [b8 c] = some [.int .u8 (c.toNat : Int)] := by
  simp [Program.keyLits, Tryz.underlying5, b8, wf8]
theorem cells16' : Tryz.prog.cellsOf 23 = 16 := by kernel_rfl
theorem cells17' : Tryz.prog.cellsOf 25 = 17 := by kernel_rfl
def lits (c : C) : List Lit := (c.a.map fun x => Lit.int .u8 (x.toNat : Int)) ++ [.int .i64 c.n]
theorem kl16 (D : Nat) (l : List UInt8) (h : l.length = 16) : Tryz.prog.keyLits (D + 2) 23 (cellsOf l) = some (l.map fun x => Lit.int .u8 (x.toNat : Int)) := by
  obtain ⟨x0, x1, x2, x3, x4, x5, x6, x7, x8, x9, x10, x11, x12, x13, x14, x15, rfl⟩ := list16 h
  unfold Program.keyLits
  rw [und16]
  simp only [cells16', cells8, cellsOf, List.map_cons, List.map_nil]
  rw [show List.range 16 = [0, 1, 2, 3, 4, 5, 6, 7, 8, 9, 10, 11, 12, 13, 14, 15] from rfl]
  simp [kl8]
theorem kl64 (D : Nat) (n : Int) (h0 : -9223372036854775808 ≤ n) (h1 : n ≤ 9223372036854775807) : Tryz.prog.keyLits (D + 1) 3 [.int .i64 n] = some [.int .i64 n] := by
  simp [Program.keyLits, Tryz.underlying3, WalkArith.wf_i64 ⟨h0, h1⟩]
theorem cells64 : Tryz.prog.cellsOf 3 = 1 := by kernel_rfl
theorem kl17 (D : Nat) (c : C) (h : OkC c) : Tryz.prog.keyLits (D + 3) 25 (cL c) = some (lits c) := by
  have h1 : (cL c).take 16 = cellsOf c.a := by
    rw [List.take_append_of_le_length (by rw [cellsOf_length, h.len]; omega), List.take_of_length_le (by rw [cellsOf_length, h.len]; omega)]
  have h2 : ((cL c).drop 16).take 1 = [.int .i64 c.n] := by
    rw [List.drop_append_of_le_length (by rw [cellsOf_length, h.len]; omega), List.drop_of_length_le (by rw [cellsOf_length, h.len]; omega)]
    rfl
  have k1 := kl16 D c.a h.len
  have k2 := kl64 (D + 1) c.n h.lo h.hi
  unfold Program.keyLits
  rw [Tryz.underlying25]
  simp only [cells17', cL_len c h.len]
  simp [cells16', cells64, h1, h2, k1, k2, lits]
/-- a Cidr's key -/
def kC (c : C) : Lit := .string (keyBytes (lits c))
theorem keyC (c : C) (h : OkC c) : keyOf Tryz.prog 25 (.agg c.cells) = some (kC c) := by
  have hk := kl17 (Tryz.prog.types.size - 2) c h
  have hT : 2 < Tryz.prog.types.size := of_decide_eq_true (by kernel_rfl)
  rw [show Tryz.prog.types.size - 2 + 3 = Tryz.prog.types.size + 1 by omega] at hk
  have hkt : Tryz.prog.keyType 25 = true := by kernel_rfl
  have hf : (Value.agg c.cells).formed Tryz.prog 25 = true := by
    simp [Value.formed, Tryz.underlying25, cells17', C_size c h.len]
  have hcl : (Value.agg c.cells).cells.toList = cL c := by simp [Value.cells, C.cells]
  unfold keyOf
  rw [Tryz.underlying25]
  show (if (Tryz.prog.keyType 25 && (Value.agg c.cells).formed Tryz.prog 25) = true then (Tryz.prog.keyLits (Tryz.prog.types.size + 1) 25 (Value.agg c.cells).cells.toList).map (fun ls => Lit.string (keyBytes ls)) else none) = _
  rw [hkt, hf, hcl, hk]
  rfl
theorem cells_inj {c d : C} (hc : c.a.length = d.a.length) (h : c.cells = d.cells) : c = d := by
  have h' : cL c = cL d := by
    have := congrArg Array.toList h
    simpa [C.cells] using this
  obtain ⟨h1, h2⟩ := List.append_inj h' (by rw [cellsOf_length, cellsOf_length, hc])
  have h3 : c.a = d.a := by
    have : ∀ l l' : List UInt8, cellsOf l = cellsOf l' → l = l' := by
      intro l
      induction l with
      | nil => intro l' h; cases l' with | nil => rfl | cons => simp [cellsOf] at h
      | cons x l ih =>
        intro l' h
        cases l' with
        | nil => simp [cellsOf] at h
        | cons y l' =>
          simp only [cellsOf, List.map_cons, List.cons.injEq, b8] at h
          have hx : x = y := by
            have h0 : (x.toNat : Int) = (y.toNat : Int) := by injection h.1
            exact UInt8.toNat.inj (by omega)
          rw [hx, ih l' h.2]
    exact this _ _ h1
  cases c; cases d
  simp at h2 h3
  simp [h2, h3]
theorem kC_inj {c d : C} (hc : OkC c) (hd : OkC d) (h : kC c = kC d) : c = d := by
  have h1 := keyC c hc
  have h2 := keyC d hd
  have h3 : Value.agg c.cells = Value.agg d.cells := keyedC.inj h1 (h2.trans (congrArg some h.symm))
  exact cells_inj (by rw [hc.len, hd.len]) (Value.agg.inj h3)
theorem kC_key (c : C) (h : OkC c) : WideAt.IsKeyLit (kC c) := keyedC.key (keyC c h)

/-- a set of Cidrs, as it lies in memory -/
structure SetIs (w : World) (s b n : Nat) (D : DataW Unit) (L : List C) : Prop where
  cell : Blk w s 57 #[.map (some b)]
  own : w.ownsMap Tryz.prog 25 (unitElem (H := Unit)) b n D
  has : ∀ kl, Maps.has D kl = true ↔ ∃ c ∈ L, kC c = kl
  ok : ∀ c ∈ L, OkC c
  nodup : L.Nodup
  size : Maps.size D = L.length
set_option maxRecDepth 100000 in
theorem SetIs.ne {w : World} {s b n : Nat} {D : DataW Unit} {L : List C} (h : SetIs w s b n D L) : s ≠ b := by
  rintro rfl
  obtain ⟨es, clock, hb, _⟩ := h.own
  have h2 := h.cell.heap
  rw [hb] at h2
  injection h2 with h2
  exact absurd h2 (by intro h; cases h)
theorem SetIs.in_ {w : World} {s b n : Nat} {D : DataW Unit} {L : List C} (h : SetIs w s b n D L) (c : C) (hc : OkC c) : Maps.has D (kC c) = decide (c ∈ L) := by
  rw [Bool.eq_iff_iff, h.has, decide_eq_true_iff]
  constructor
  · rintro ⟨d, hd, he⟩; rwa [kC_inj hc (h.ok d hd) he.symm]
  · intro hm; exact ⟨c, hm, rfl⟩
theorem SetIs.below {w w' : World} {s b n B : Nat} {D : DataW Unit} {L : List C} (h : SetIs w s b n D L) (hb : Below B w w') (h1 : s < B) (h2 : b < B) : SetIs w' s b n D L where
  cell := h.cell.below hb h1
  own := by
    obtain ⟨es, clock, hh, r⟩ := h.own
    exact ⟨es, clock, (hb.block b h2).trans hh, r⟩
  has := h.has
  ok := h.ok
  nodup := h.nodup
  size := h.size
theorem SetIs.on {w w' : World} {s b n : Nat} {D : DataW Unit} {L : List C} (h : SetIs w s b n D L) (hb : Below w.heap.size w w') : SetIs w' s b n D L := h.below hb h.cell.lt h.own.lt
end Go.Proofs.YtialcnioeeikpaaGreatDoor.Ad

/-
  All of a set: what was collected from the map, and rows of Cidrs in memory. Plain lemmas.
-/
set_option linter.unusedSimpArgs false
namespace Go.Proofs.YtialcnioeeikpaaGreatDoor.Ad
open Go Go.RowKit Go.Lib Go.Shelf Go.Sort Go.Maps Go.Proofs.YtialcnioeeikpaaGreatDoor.Wd

abbrev e16 : C16 → List Value := fun c => cL c.1
def vals (l : List C16) : List C := l.map Subtype.val
/-- no Cidr twice; a Cidr is on the list just where the set has it and it is no longer to come -/
structure Coll (L : List C) (left : Lit → Bool) (ss : List C16) : Prop where
  nodup : (vals ss).Nodup
  mem : ∀ c, c ∈ vals ss ↔ c ∈ L ∧ left (kC c) = false

theorem sameKC (c d : C) : (kC c).sameKey (kC d) = true ↔ kC c = kC d := by
  unfold kC
  by_cases h : keyBytes (lits c) = keyBytes (lits d)
  · simp [h, Lit.sameKey]
  · simp [h, Lit.sameKey]
theorem Coll.start {w : World} {s b n : Nat} {D : DataW Unit} {L : List C} (h : SetIs w s b n D L) : Coll L (Maps.has D) [] :=
  ⟨List.nodup_nil, fun c => by
    constructor
    · intro hc; cases hc
    · rintro ⟨hc, hl⟩
      have := (h.has (kC c)).2 ⟨c, hc, rfl⟩
      rw [hl] at this; cases this⟩
theorem Coll.key {w : World} {s b n : Nat} {D : DataW Unit} {L : List C} (hS : SetIs w s b n D L) {key : Value} {kl : Lit} {y : DataW Unit} (hk : keyOf Tryz.prog 25 key = some kl) (hat : ∀ zd, D.atKey kl zd = y) :
    ∃ c ∈ L, kl = kC c ∧ key = .agg c.cells := by
  obtain ⟨c, hc, he⟩ := (hS.has kl).1 (has_true_of_atKey hat)
  exact ⟨c, hc, he.symm, keyedC.inj hk (he ▸ keyC c (hS.ok c hc))⟩
theorem Coll.step {L : List C} {left : Lit → Bool} {ss : List C16} (h : Coll L left ss) (hok : ∀ c ∈ L, OkC c) (c : C16) (hc : c.1 ∈ L) (hl : left (kC c.1) = true) : Coll L (fun z => left z && !z.sameKey (kC c.1)) (ss ++ [c]) := by
  have hnew : c.1 ∉ vals ss := fun hx => by have := ((h.mem c.1).1 hx).2; rw [hl] at this; cases this
  refine ⟨?_, fun d => ?_⟩
  · unfold vals
    rw [List.map_append]
    exact List.nodup_append.2 ⟨h.nodup, by simp, fun a ha b hb => by simp at hb; subst hb; exact fun e => hnew (e ▸ ha)⟩
  · have hd : d ∈ vals (ss ++ [c]) ↔ d ∈ vals ss ∨ d = c.1 := by unfold vals; rw [List.map_append, List.mem_append]; simp
    rw [hd, h.mem d]
    show _ ↔ d ∈ L ∧ (left (kC d) && !(kC d).sameKey (kC c.1)) = false
    by_cases e : d = c.1
    · subst e
      have := (sameKC c.1 c.1).2 rfl
      simp [hc, this]
    · constructor
      · rintro (⟨h1, h2⟩ | h1)
        · exact ⟨h1, by rw [h2]; rfl⟩
        · exact absurd h1 e
      · rintro ⟨h1, h2⟩
        have hne : kC d ≠ kC c.1 := fun he => e (kC_inj (hok d h1) (hok _ hc) he)
        have hs : (kC d).sameKey (kC c.1) = false := Bool.eq_false_iff.2 fun hh => hne ((sameKC _ _).1 hh)
        rw [hs] at h2
        exact Or.inl ⟨h1, by simpa using h2⟩
theorem Coll.perm {L : List C} {left : Lit → Bool} {ss : List C16} (h : Coll L left ss) (hn : L.Nodup) (hl : ∀ kl, left kl = false) : (vals ss).Perm L :=
  (List.perm_ext_iff_of_nodup h.nodup hn).2 fun c => by rw [h.mem, hl]; simp

/-- the cells of a row of Cidrs -/
def flat (l : List C16) : List Value := l.flatMap e16
theorem e16_len (c : C16) : (e16 c).length = 17 := cL_len c.1 c.2
theorem e16_one (c : C16) : ∀ v ∈ e16 c, v.oneCell' = true := by
  intro v hv
  rcases List.mem_append.1 hv with h | h
  · exact cellsOf_one _ v h
  · simp at h; subst h; rfl
theorem flat_append (l l' : List C16) : flat (l ++ l') = flat l ++ flat l' := by simp [flat]
theorem flat_one (c : C16) : flat [c] = e16 c := by simp [flat]
theorem flat_len : ∀ l : List C16, (flat l).length = l.length * 17
  | [] => rfl
  | c :: l => by
    have := flat_len l
    rw [show c :: l = [c] ++ l from rfl, flat_append, flat_one, List.length_append, e16_len, this, List.length_append, Nat.add_mul]
    rfl
theorem flat_get : ∀ (l : List C16) (i : Nat) (c : C16) (j : Nat), l[i]? = some c → j < 17 → (flat l)[i * 17 + j]? = (e16 c)[j]?
  | [], _, _, _, h, _ => by simp at h
  | x :: l, 0, c, j, h, hj => by
    simp at h; subst h
    rw [show x :: l = [x] ++ l from rfl, flat_append, flat_one, Nat.zero_mul, Nat.zero_add, List.getElem?_append_left (by rw [e16_len]; exact hj)]
  | x :: l, i + 1, c, j, h, hj => by
    rw [show x :: l = [x] ++ l from rfl, flat_append, flat_one, List.getElem?_append_right (by rw [e16_len]; omega), e16_len, show (i + 1) * 17 + j - 17 = i * 17 + j by omega]
    exact flat_get l i c j (by simpa using h) hj
theorem flatK_get (l : List C16) (t : Nat) (h : t < l.length * 17) : (flat l)[t]? = some ((flatK e16 17 l.toArray)[t]!) := by
  rw [get_flatK _ _ _ _ (by simpa using h)]
  have hi : t / 17 < l.length := by omega
  have e := flat_get l (t / 17) l[t / 17] (t % 17) (List.getElem?_eq_getElem hi) (by omega)
  rw [show t / 17 * 17 + t % 17 = t by omega] at e
  have hj : t % 17 < (e16 l[t / 17]).length := by rw [e16_len]; omega
  rw [e, List.getElem?_eq_getElem hj]
  congr 1
  rw [getElem!_pos l.toArray (t / 17) (by simpa using hi)]
  rw [List.getElem_toArray, getElem!_pos (e16 l[t / 17]) (t % 17) hj]
/-- a row of Cidrs, as it lies in block g -/
def RowC (w : World) (g : Nat) (l : List C16) : Prop := ∀ i c, l[i]? = some c → w.rangeAt g (i * 17) (e16 c)
theorem RowC.of_holds {w : World} {g : Nat} {l : List C16} (h : HoldsK e16 17 w g 0 l.toArray) : RowC w g l := by
  intro i c hi j v hj
  have hil : i < l.length := (List.getElem?_eq_some_iff.1 hi).1
  have hjl : j < 17 := by have := (List.getElem?_eq_some_iff.1 hj).1; rwa [e16_len] at this
  have h1 := (h (i * 17 + j) (by simp; omega)).1
  rw [Nat.zero_add] at h1
  rw [h1]
  show some ((flatK e16 17 l.toArray)[i * 17 + j]!) = _
  rw [← flatK_get l _ (by omega), flat_get l i c j hi hjl, hj]
theorem holdsK_of_block {w : World} {g : Nat} {cur : Array Value} {e : TypeId} {l : List C16} (hb : w.heap[g]? = some (.cells cur e (0, 0))) (ht : cur.toList.take (l.length * 17) = flat l) : HoldsK e16 17 w g 0 l.toArray := by
  intro t h
  have h' : t < l.length * 17 := by simpa using h
  refine ⟨?_, by simp [World.frozen?, hb]⟩
  have h1 : (cur.toList.take (l.length * 17))[t]? = (flat l)[t]? := by rw [ht]
  rw [List.getElem?_take_of_lt h', flatK_get l t h'] at h1
  rw [Nat.zero_add, cell_of_row w g t cur e (0, 0) hb, ← Array.getElem?_toList, h1]
  rfl
theorem grownBy_sortedC {w : World} {g n : Nat} {os : Array Obj} (d : Array C16) : w.grownBy (sortWorldK e16 17 w g 0 n d os) (some g) := by
  refine ⟨rfl, rfl, rfl, by simp [sortWorldK, putRowK, putRow, mapBlock, Sort.ahead, grow], fun k hk hne => ?_⟩
  unfold sortWorldK
  rw [heap_grow_old _ _ (by simpa [putRowK] using hk)]
  have : g ≠ k := fun e => hne (by rw [e])
  simp [putRowK, putRow, mapBlock, Sort.ahead, Array.getElem?_modify, this]
theorem tot16 : ∀ x y : C16, Go.Proofs.ltOf cf16 x y = false → Go.Proofs.ltOf cf16 y x = false → x = y := by
  intro x y h1 h2
  rw [lt16_no] at h1 h2
  unfold Ahead at h1 h2
  have ha : x.1.a = y.1.a := numB_inj _ _ (by rw [x.2, y.2]) (by omega)
  have hn : x.1.n = y.1.n := by omega
  apply Subtype.ext
  rcases x with ⟨⟨xa, xn⟩, hx⟩
  rcases y with ⟨⟨ya, yn⟩, hy⟩
  simp only at ha hn
  simp only [ha, hn]
def InOrder (l : List C16) : Prop := l.Pairwise fun x y => Go.Proofs.ltOf cf16 y x = false
theorem inOrder_sort (l : List C16) : InOrder (l.mergeSort fun x y => !(Go.Proofs.ltOf cf16) y x) := by
  have tr : ∀ a b c : C16, (!(Go.Proofs.ltOf cf16) b a) = true → (!(Go.Proofs.ltOf cf16) c b) = true → (!(Go.Proofs.ltOf cf16) c a) = true := fun a b c h1 h2 => by
    simp only [Bool.not_eq_true'] at *
    exact swo16.ntrans _ _ _ h2 h1
  have to : ∀ a b : C16, ((!(Go.Proofs.ltOf cf16) b a) || (!(Go.Proofs.ltOf cf16) a b)) = true := fun a b => by
    cases h : Go.Proofs.ltOf cf16 b a
    · rfl
    · cases h2 : Go.Proofs.ltOf cf16 a b
      · rfl
      · have := swo16.trans _ _ _ h h2
        rw [swo16.irrefl] at this; cases this
  refine (List.pairwise_mergeSort tr to l).imp ?_
  intro a b h
  simpa using h
def AllPost (L : List C) (w : World) (e : Ending) (w' : World) : Prop :=
  ∃ (g cap : Nat) (M : List C16), e = .returned (.slice (some ⟨g, 0, none⟩) M.length cap) ∧ (vals M).Perm L ∧ InOrder M ∧ RowC w' g M ∧ w.heap.size ≤ g ∧ g < w'.heap.size ∧ Below w.heap.size w w'
end Go.Proofs.YtialcnioeeikpaaGreatDoor.Ad

/-
  Contracts of package cidr's New, has, Add and Drop over this seat's translation.
-/
namespace Go.Proofs.YtialcnioeeikpaaGreatDoor.Ad
open Go.RowKit Go.Proofs.YtialcnioeeikpaaGreatDoor.Wd Go.Maps

theorem undM : Tryz.prog.underlying 55 = some (.map 25 59) := by kernel_rfl
theorem zeroU (w : World) : (zeroValue 59).run Tryz.prog w = .ok (.agg #[]) w := by kernel_rfl
theorem new_any (w : World) : Calls Tryz.prog 15 #[] w fun e w' => e = .returned (.pointer (some ⟨w.heap.size + 1, 0, none⟩)) ∧ SetIs w' (w.heap.size + 1) w.heap.size 0 (.map []) [] ∧ Below w.heap.size w w' := by
  have hmm := @run_makeMap Tryz.prog
  go_enter Tryz.func15, Tryz.ntmps15
  go_wp2
  go_ret
  refine ⟨by simp, ⟨blk_at _ _ _ _ _ (by simp) rfl, (World.ownsMap_made w _ _ _).alloc _, fun kl => ?_, fun c h => (by cases h), List.nodup_nil, rfl⟩, ((Below.refl _ _).alloc (Nat.le_refl _) _).alloc (by simp) _⟩
  simp [Maps.has]
theorem go_ldg {ops : Array Oper} {rest : List Oper} {o : Oper} {a : Act} {w : World} {Q : Exit → Act → World → Prop} {x : Operand} {g t n : Nat} {C : Array Value} {d : TypeDesc} (ty : TypeId) (hb : Blk w g t C) (hu : Tryz.prog.underlying ty = some d)
    (hd : d.isRow = true) (hi : (Tryz.prog.info? ty).map (·.size) = some n) (hn : C.size = n) (hw : Region.wanted o (yielded ops a.tmps) = true) (ho : o.op = .load ty x)
    (hx : a.eval x = .pointer (some ⟨g, 0, none⟩)) (h : wpList Tryz.prog ops Q rest (a.put o.dst (.agg C)) w) : wpList Tryz.prog ops Q (o :: rest) a w := by
  show if Region.wanted o (yielded ops a.tmps) = true then _ else _
  rw [if_pos hw]
  exact .inl (wp_load_row ty x ho g hx t C (0, 0) d hb hu (by cases d <;> first | rfl | cases hd) (by rw [hi, hn]) h)
theorem set_lk {w : World} {s b n : Nat} {D : DataW Unit} {L : List C} (h : SetIs w s b n D L) (c : C) (hc : OkC c) : (Instr.lookup 55 (.map (some b)) (.agg c.cells) true).run Tryz.prog w = .ok (.tuple #[.agg #[], .bool (decide (c ∈ L))]) w := by
  obtain ⟨v, ps, hrun, hv⟩ := h.own.look_ok keyedC undM (zeroU w) unitElem_mk (keyC c hc)
  obtain ⟨rfl, _⟩ := unitElem_inv hv
  rw [h.in_ c hc] at hrun
  exact hrun
theorem set_cell {w : World} {s b n : Nat} {D : DataW Unit} {L : List C} (h : SetIs w s b n D L) : w.cell? ⟨s, 0, none⟩ = some (.map (some b)) := by
  rw [h.cell.cell]; rfl

set_option linter.unusedSimpArgs false in
set_option maxRecDepth 100000 in
set_option maxHeartbeats 2000000 in
theorem shas_any {s b n : Nat} {D : DataW Unit} {L : List C} (c : C) (hc : OkC c) (w : World) (hS : SetIs w s b n D L) :
    Calls Tryz.prog 37 #[.pointer (some ⟨s, 0, none⟩), .agg c.cells] w fun e w' => e = .returned (.bool (decide (c ∈ L))) ∧ Below w.heap.size w w' := by
  have hi17 : (Tryz.prog.info? 25).map (·.size) = some (cL c).length := by rw [cL_len c hc.len]; exact info17
  have hlk := fun w (h : SetIs w s b n D L) => set_lk h c hc
  have HLK := Lib.hid hlk
  clear hlk
  go_enter Tryz.func37, Tryz.ntmps37
  go_wp2_with fail
  have b0 := Blk.new w 25 c.cells
  have hbel : Below w.heap.size w (w.alloc (.cells c.cells 25)) := (Below.refl _ _).alloc (Nat.le_refl _) _
  have s1 := hS.on hbel
  generalize w.alloc (.cells c.cells 25) = w1 at *
  generalize hG : w.heap.size = G at *
  have HL := Lib.hid hbel
  have HA := Lib.hid (And.intro (rangeC (w := w1.drew) b0) (s1.on (w' := w1.drew) (Below.refl _ _).drew))
  have HB : Hid (Blk w1.drew G 25 c.cells) := b0
  generalize hR : decide (c ∈ L) = R at HLK
  have HR := Lib.hid hR
  clear hR
  clear b0 hbel s1 hS
  refine wp_region_held_drew (S := fun w' => w'.rangeAt G 0 (cL c) ∧ SetIs w' s b n D L) (by kernel_rfl) HA.out (fun h0 => ?_)
  refine hd_take 0 (some 8) (.pointer (some ⟨s, 0, none⟩)) rfl rfl (by kernel_rfl) (by kernel_rfl) (by kernel_rfl) (fun _ _ _ h => h) (Or.inl ⟨by rfl, fun w hw => by go_simp⟩) h0 ?_
  simp only [Act.put, List.setIfInBounds_toArray, List.set_cons_zero, List.set_cons_succ]
  refine hd_take 1 (some 9) (.pointer (some ⟨s, 0, none⟩)) rfl rfl (by kernel_rfl) (by kernel_rfl) (by kernel_rfl) (fun _ _ _ h => h) (Or.inl ⟨by rfl, fun w hw => by go_simp⟩) h0 ?_
  simp only [Act.put, List.setIfInBounds_toArray, List.set_cons_zero, List.set_cons_succ]
  refine hd_take 2 (some 10) (.pointer (some ⟨s, 0, none⟩)) rfl rfl (by kernel_rfl) (by kernel_rfl) (by kernel_rfl) (fun _ _ _ h => h) (Or.inl ⟨by rfl, fun w hw => by go_simp⟩) h0 ?_
  simp only [Act.put, List.setIfInBounds_toArray, List.set_cons_zero, List.set_cons_succ]
  refine hd_take 3 (some 11) (.map (some b)) rfl rfl (by kernel_rfl) (by kernel_rfl) (by kernel_rfl) (fun _ _ _ h => h) (Or.inl ⟨by rfl, fun w hw => by have h16 := set_cell hw.2; go_simp⟩) h0 ?_
  simp only [Act.put, List.setIfInBounds_toArray, List.set_cons_zero, List.set_cons_succ]
  refine hd_take 4 (some 12) (.agg c.cells) rfl rfl (by kernel_rfl) (by kernel_rfl) (by kernel_rfl) (fun _ _ _ h => h) (yieldsIf_load_mid (by rfl) _ _ rfl G 0 rfl (cL c) _ (fun _ h => h.1) und17 rfl hi17) h0 ?_
  simp only [Act.put, List.setIfInBounds_toArray, List.set_cons_zero, List.set_cons_succ]
  refine hd_take 5 (some 13) (.tuple #[.agg #[], .bool R]) rfl rfl (by kernel_rfl) (by kernel_rfl) (by kernel_rfl) (fun _ _ _ h => h) (Or.inl ⟨by rfl, fun w hw => by have h16 := HLK.out w hw.2; go_simp⟩) h0 ?_
  simp only [Act.put, List.setIfInBounds_toArray, List.set_cons_zero, List.set_cons_succ]
  refine hd_take 6 (some 7) (.tuple #[.agg #[], .bool R]) rfl rfl (by kernel_rfl) (by kernel_rfl) (by kernel_rfl) (fun _ _ _ h => h) (Or.inl ⟨by rfl, fun w hw => by go_simp⟩) h0 ?_
  simp only [Act.put, List.setIfInBounds_toArray, List.set_cons_zero, List.set_cons_succ]
  refine hd_take 7 (some 14) (.agg #[]) rfl rfl (by kernel_rfl) (by kernel_rfl) (by kernel_rfl) (fun _ _ _ h => h) (Or.inl ⟨by rfl, fun w hw => by go_simp⟩) h0 ?_
  simp only [Act.put, List.setIfInBounds_toArray, List.set_cons_zero, List.set_cons_succ]
  refine hd_take 8 (some 15) (.bool R) rfl rfl (by kernel_rfl) (by kernel_rfl) (by kernel_rfl) (fun _ _ _ h => h) (Or.inl ⟨by rfl, fun w hw => by go_simp⟩) h0 ?_
  simp only [Act.put, List.setIfInBounds_toArray, List.set_cons_zero, List.set_cons_succ]
  refine wpAnyH_ready (rs := [9]) (by kernel_rfl) (by simp) (AllReadyH.cons rfl (fun K hK => ?_) AllReadyH.nil)
  go_simp
  refine hK.out _ _ ⟨rangeC (HB.out.alloc _), HA.out.2.on ((Below.refl _ _).alloc (Nat.le_refl _) _)⟩ (fun h2 => ?_)
  clear hK K
  refine wpAnyH_ready (rs := [10]) (by kernel_rfl) (by simp) (AllReadyH.cons rfl (fun K hK => ?_) AllReadyH.nil)
  go_simp
  refine hK.out _ _ (by first | exact h2 | exact ⟨rangeC (HB.out.alloc _), HA.out.2.on ((Below.refl _ _).alloc (Nat.le_refl _) _)⟩) (fun h3 => ?_)
  clear hK K
  refine hd_take 11 (some 6) (.bool R) rfl rfl (by kernel_rfl) (by kernel_rfl) (by kernel_rfl) (fun _ _ _ h => h) (Or.inl ⟨by rfl, fun w hw => by go_simp⟩) h3 ?_
  simp only [Act.put, List.setIfInBounds_toArray, List.set_cons_zero, List.set_cons_succ]
  refine wpAnyH_done (by kernel_rfl) ?_ _
  go_wp2_with fail
  go_ret
  refine ⟨by rw [HR.out]; rfl, ?_⟩
  rw [hG]
  exact HL.out.trans (((Below.refl _ _).drew.alloc (Nat.le_refl _) _).mono (by show G ≤ w1.heap.size; have := HB.out.lt; have : G < w1.heap.size := this; omega))

theorem set_put {w w' : World} {s b n : Nat} {D : DataW Unit} {L : List C} (h : SetIs w s b n D L) (c : C) (hc : OkC c) (hn : c ∉ L) (ho : w'.ownsMap Tryz.prog 25 (unitElem (H := Unit)) b (n + 1) (D.put (kC c) (.agg []))) (hg : w.grownBy w' (some b)) : SetIs w' s b (n + 1) (D.put (kC c) (.agg [])) (L ++ [c]) where
  cell := h.cell.grown hg (by intro e; injection e with e; exact h.ne e)
  own := ho
  has := fun kl => by
    by_cases hk : kl = kC c
    · subst hk
      rw [Maps.has_put_same h.own.isMap (kC_key c hc)]
      exact ⟨fun _ => ⟨c, by simp, rfl⟩, fun _ => rfl⟩
    · rw [Maps.has_put_other hk, h.has]
      constructor
      · rintro ⟨d, hd, he⟩; exact ⟨d, by simp [hd], he⟩
      · rintro ⟨d, hd, he⟩
        rcases List.mem_append.1 hd with hd | hd
        · exact ⟨d, hd, he⟩
        · simp at hd; subst hd; exact absurd he.symm hk
  ok := fun d hd => by
    rcases List.mem_append.1 hd with hd | hd
    · exact h.ok d hd
    · simp at hd; subst hd; exact hc
  nodup := by
    rw [List.nodup_append]
    exact ⟨h.nodup, by simp, fun a ha d hd e => by simp at hd; subst hd e; exact hn ha⟩
  size := by
    rw [Maps.size_put (h.own.tidy keyedC), h.in_ c hc, h.size]
    simp [hn]
theorem set_del {w w' : World} {s b n : Nat} {D : DataW Unit} {L : List C} (h : SetIs w s b n D L) (c : C) (hc : OkC c) (hn : c ∈ L) (ho : w'.ownsMap Tryz.prog 25 (unitElem (H := Unit)) b n (D.del (kC c))) (hg : w.grownBy w' (some b)) : SetIs w' s b n (D.del (kC c)) (L.erase c) where
  cell := h.cell.grown hg (by intro e; injection e with e; exact h.ne e)
  own := ho
  has := fun kl => by
    by_cases hk : kl = kC c
    · subst hk
      rw [Maps.has_del_same]
      constructor
      · intro h; cases h
      · rintro ⟨d, hd, he⟩
        obtain ⟨h1, h2⟩ := (List.Nodup.mem_erase_iff h.nodup).1 hd
        exact absurd (kC_inj (h.ok d h2) hc he) h1
    · rw [Maps.has_del_other hk, h.has]
      constructor
      · rintro ⟨d, hd, he⟩; exact ⟨d, (List.Nodup.mem_erase_iff h.nodup).2 ⟨by rintro rfl; exact hk he.symm, hd⟩, he⟩
      · rintro ⟨d, hd, he⟩; exact ⟨d, List.mem_of_mem_erase hd, he⟩
  ok := fun d hd => h.ok d (List.mem_of_mem_erase hd)
  nodup := h.nodup.erase c
  size := by
    have := Maps.size_del (k := kC c) (h.own.tidy keyedC)
    rw [h.in_ c hc, h.size] at this
    rw [List.length_erase_of_mem hn]
    simp [hn] at this
    omega
theorem SetIs.more {w : World} {s b n : Nat} {D : DataW Unit} {L : List C} (h : SetIs w s b n D L) : SetIs w s b (n + 1) D L := { h with own := h.own.mono (Nat.le_succ _) }
theorem SetIs.range {w w' : World} {g b : Nat} {l : List Value} (h : w.rangeAt g 0 l) (hg : w.grownBy w' (some b)) (hlt : g < w.heap.size) (hne : g ≠ b) : w'.rangeAt g 0 l := fun j v hv => by
  have := h j v hv
  have hb := hg.block g hlt (by intro e; injection e with e; exact hne e)
  unfold World.cell? at this ⊢
  simp only at this ⊢
  rw [hb]
  exact this
/-- what Add leaves -/
def addL (L : List C) (c : C) : List C := if rightS c = true ∧ c ∉ L then L ++ [c] else L
def addB (L : List C) (c : C) : Bool := rightS c && !decide (c ∈ L)
def SetPost (w : World) (s b n : Nat) (L' : List C) (r : Bool) (e : Ending) (w' : World) : Prop := e = .returned (.bool r) ∧ (∃ D', SetIs w' s b n D' L') ∧ w.grownBy w' (some b)

set_option linter.unusedSimpArgs false in
set_option maxRecDepth 100000 in
set_option maxHeartbeats 2000000 in
theorem sadd_any {s b n : Nat} {D : DataW Unit} {L : List C} (c : C) (hc : OkC c) (w : World) (hS : SetIs w s b n D L) (hn : n < maxLen) :
    Calls Tryz.prog 17 #[.pointer (some ⟨s, 0, none⟩), .agg c.cells] w (SetPost w s b (n + 1) (addL L c) (addB L c)) := by
  have hi17 : (Tryz.prog.info? 25).map (·.size) = some (cL c).length := by rw [cL_len c hc.len]; exact info17
  have h17 := C_size c hc.len
  go_enter Tryz.func17, Tryz.ntmps17
  go_upto_region 1 with fail
  have b0 := Blk.new w 25 c.cells
  have hbel : Below w.heap.size w (w.alloc (.cells c.cells 25)) := (Below.refl _ _).alloc (Nat.le_refl _) _
  have s1 := hS.on hbel
  have hbw := hS.own.lt
  generalize w.alloc (.cells c.cells 25) = w1 at *
  have S1 := Lib.hid s1
  clear s1 hS
  cases hr : rightS c with
  | false =>
    have H1 := Lib.hid (show addL L c = L by rw [addL, if_neg (by rw [hr]; simp)])
    have H2 := Lib.hid (show addB L c = false by rw [addB, hr]; rfl)
    have HR := Lib.hid hr
    clear hr
    go_wp2_with (refine go_ld 25 b0 und17 rfl info17 h17 rfl rfl rfl ?_)
    refine (right_any c hc.len _).mono ?_
    rintro e w2 ⟨rfl, hb2⟩
    rw [HR.out]
    have S2 := Lib.hid (S1.out.on hb2)
    have HL := Lib.hid (hbel.trans (hb2.mono hbel.size))
    clear hb2 hbel b0
    go_wp2_with fail
    go_ret
    exact ⟨by rw [H2.out]; rfl, ⟨D, by rw [H1.out]; exact S2.out.more⟩, only_of_below HL.out _⟩
  | true =>
    have HR := Lib.hid hr
    go_wp2_with (refine go_ld 25 b0 und17 rfl info17 h17 rfl rfl rfl ?_)
    refine (right_any c hc.len _).mono ?_
    rintro e w2 ⟨rfl, hb2⟩
    rw [HR.out]
    have S2 := Lib.hid (S1.out.on hb2)
    have hbel2 := hbel.trans (hb2.mono hbel.size)
    have b2 := b0.below hb2 b0.lt
    clear hb2 hbel b0
    go_wp2_with (refine go_ldg 25 b2 und17 rfl info17 h17 rfl rfl rfl ?_)
    refine (shas_any c hc _ S2.out).mono ?_
    rintro e w3 ⟨rfl, hb3⟩
    have S3 := Lib.hid (S2.out.on hb3)
    have HL := Lib.hid (hbel2.trans (hb3.mono hbel2.size))
    have b3 := b2.below hb3 b2.lt
    clear hb3 hbel2 b2
    by_cases hm : c ∈ L
    · have H1 := Lib.hid (show addL L c = L by rw [addL, if_neg (by simp [hm])])
      have H2 := Lib.hid (show addB L c = false by rw [addB]; simp [hm])
      rw [show decide (c ∈ L) = true from decide_eq_true hm]
      clear hm hr
      go_wp2_with fail
      go_ret
      exact ⟨by rw [H2.out]; rfl, ⟨D, by rw [H1.out]; exact S3.out.more⟩, only_of_below HL.out _⟩
    · have H1 := Lib.hid (show addL L c = L ++ [c] by rw [addL, if_pos ⟨hr, hm⟩])
      have H2 := Lib.hid (show addB L c = true by rw [addB, hr]; simp [hm])
      have HM := Lib.hid hm
      rw [show decide (c ∈ L) = false from decide_eq_false hm]
      clear hm hr
      go_upto_region 3 with fail
      have hcell := set_cell S3.out
      have HG := Lib.hid (And.intro (rangeC (w := w3.drew) b3) (show w3.drew.cell? ⟨s, 0, none⟩ = some (.map (some b)) from hcell))
      obtain ⟨w4, hrun, hown, hturn⟩ := (S3.out.own.drew).store keyedC undM hn (keyC c hc) (unitElem_mk (H := Unit))
      have hgr : w3.grownBy w4 (some b) := (only_of_below (Below.refl _ _).drew _).trans hturn.grown
      have S4 := Lib.hid (set_put S3.out c hc HM.out hown hgr)
      have hlt3 := b3.lt
      have HFIN : Hid (w.grownBy w4 (some b)) := only_trans (only_of_below HL.out _) hgr
      have HS4 : Hid (w4.rangeAt w.heap.size 0 (cL c) ∧ w4.cell? ⟨s, 0, none⟩ = some (.map (some b))) := ⟨SetIs.range HG.out.1 hturn.grown hlt3 (by omega), set_cell S4.out⟩
      clear hcell hown hturn hgr
      generalize hG : w.heap.size = G at *
      refine wp_region_held_drew (S := fun w' => w'.rangeAt G 0 (cL c) ∧ w'.cell? ⟨s, 0, none⟩ = some (.map (some b))) (by kernel_rfl) HG.out (fun h0 => ?_)
      refine hd_take 0 (some 13) (.pointer (some ⟨s, 0, none⟩)) rfl rfl (by kernel_rfl) (by kernel_rfl) (by kernel_rfl) (fun _ _ _ h => h) (Or.inl ⟨by rfl, fun w hw => by go_simp⟩) h0 ?_
      simp only [Act.put, List.setIfInBounds_toArray, List.set_cons_zero, List.set_cons_succ]
      refine hd_take 1 (some 14) (.pointer (some ⟨s, 0, none⟩)) rfl rfl (by kernel_rfl) (by kernel_rfl) (by kernel_rfl) (fun _ _ _ h => h) (Or.inl ⟨by rfl, fun w hw => by go_simp⟩) h0 ?_
      simp only [Act.put, List.setIfInBounds_toArray, List.set_cons_zero, List.set_cons_succ]
      refine hd_take 2 (some 15) (.pointer (some ⟨s, 0, none⟩)) rfl rfl (by kernel_rfl) (by kernel_rfl) (by kernel_rfl) (fun _ _ _ h => h) (Or.inl ⟨by rfl, fun w hw => by go_simp⟩) h0 ?_
      simp only [Act.put, List.setIfInBounds_toArray, List.set_cons_zero, List.set_cons_succ]
      refine hd_take 3 (some 16) (.map (some b)) rfl rfl (by kernel_rfl) (by kernel_rfl) (by kernel_rfl) (fun _ _ _ h => h) (Or.inl ⟨by rfl, fun w hw => by have h16 := hw.2; go_simp⟩) h0 ?_
      simp only [Act.put, List.setIfInBounds_toArray, List.set_cons_zero, List.set_cons_succ]
      refine hd_take 4 (some 17) (.agg c.cells) rfl rfl (by kernel_rfl) (by kernel_rfl) (by kernel_rfl) (fun _ _ _ h => h) (yieldsIf_load_mid (by rfl) _ _ rfl G 0 rfl (cL c) _ (fun _ h => h.1) und17 rfl hi17) h0 ?_
      simp only [Act.put, List.setIfInBounds_toArray, List.set_cons_zero, List.set_cons_succ]
      refine hd_take 5 (some 18) (.agg #[]) rfl rfl (by kernel_rfl) (by kernel_rfl) (by kernel_rfl) (fun _ _ _ h => h) (Or.inl ⟨by rfl, fun w hw => by go_simp⟩) h0 ?_
      simp only [Act.put, List.setIfInBounds_toArray, List.set_cons_zero, List.set_cons_succ]
      refine wpAnyH_ready (rs := [6]) (by kernel_rfl) (by simp) (AllReadyH.cons rfl (fun K hK => ?_) AllReadyH.nil)
      go_simp
      refine hK.out _ _ HS4.out (fun h4 => ?_)
      clear hK K
      refine wpAnyH_done (by kernel_rfl) ?_ _
      go_wp2_with fail
      go_ret
      exact ⟨by rw [H2.out]; rfl, ⟨_, by rw [H1.out]; exact S4.out⟩, HFIN.out⟩
end Go.Proofs.YtialcnioeeikpaaGreatDoor.Ad

/-
  Contracts of package cidr's Drop and Find over this seat's translation.
-/
namespace Go.Proofs.YtialcnioeeikpaaGreatDoor.Ad
open Go.RowKit Go.Proofs.YtialcnioeeikpaaGreatDoor.Wd Go.Maps

theorem step_del {ops : Array Oper} {o : Oper} {a : Act} {w w' : World} {K : Act → World → Prop} {Q : Exit → Act → World → Prop} {E : Prop} {m x : Operand} {b : Nat} {key : Value} (hgd : o.guard = none)
    (ho : o.op = .call { callee := .builtin .delete, args := #[m, x], argTypes := #[55, 25] }) (hm : a.eval m = .map (some b)) (hx : a.eval x = key)
    (hrun : (Builtin.delete_ #[55, 25] o.type #[.map (some b), key]).run Tryz.prog w = .ok (.tuple #[]) w') (h : K (a.put o.dst (.tuple #[])) w') : if Region.wanted o (yielded ops a.tmps) = true then Oper.wp Tryz.prog o a w K Q else E := by
  have hw : Region.wanted o (yielded ops a.tmps) = true := by simp [Region.wanted, hgd]
  rw [if_pos hw]
  unfold Oper.wp
  simp [execOp, ho, resolve, invoke, builtin, hm, hx, hrun, Result.andThen]
  exact h

set_option linter.unusedSimpArgs false in
set_option maxRecDepth 100000 in
set_option maxHeartbeats 2000000 in
theorem sdrop_any {s b n : Nat} {D : DataW Unit} {L : List C} (c : C) (hc : OkC c) (w : World) (hS : SetIs w s b n D L) :
    Calls Tryz.prog 19 #[.pointer (some ⟨s, 0, none⟩), .agg c.cells] w (SetPost w s b n (L.erase c) (decide (c ∈ L))) := by
  have hi17 : (Tryz.prog.info? 25).map (·.size) = some (cL c).length := by rw [cL_len c hc.len]; exact info17
  have h17 := C_size c hc.len
  go_enter Tryz.func19, Tryz.ntmps19
  go_upto_region 1 with fail
  have b0 := Blk.new w 25 c.cells
  have hbel : Below w.heap.size w (w.alloc (.cells c.cells 25)) := (Below.refl _ _).alloc (Nat.le_refl _) _
  have s1 := hS.on hbel
  have hbw := hS.own.lt
  generalize w.alloc (.cells c.cells 25) = w1 at *
  clear hS
  go_wp2_with (refine go_ld 25 b0 und17 rfl info17 h17 rfl rfl rfl ?_)
  refine (shas_any c hc _ s1).mono ?_
  rintro e w3 ⟨rfl, hb3⟩
  have S3 := Lib.hid (s1.on hb3)
  have HL := Lib.hid (hbel.trans (hb3.mono hbel.size))
  have b3 := b0.below hb3 b0.lt
  clear hb3 hbel b0 s1
  by_cases hm : c ∈ L
  · have H1 := Lib.hid (show decide (c ∈ L) = true from decide_eq_true hm)
    rw [H1.out]
    go_upto_region 3 with fail
    have hcell := set_cell S3.out
    have HG := Lib.hid (And.intro (rangeC (w := w3.drew) b3) (show w3.drew.cell? ⟨s, 0, none⟩ = some (.map (some b)) from hcell))
    obtain ⟨w4, hrun, hown, hturn⟩ := (S3.out.own.drew).drop keyedC undM (keyC c hc) 0
    have hgr : w3.grownBy w4 (some b) := (only_of_below (Below.refl _ _).drew _).trans hturn.grown
    have S4 := Lib.hid (set_del S3.out c hc hm hown hgr)
    have hlt3 := b3.lt
    have HFIN : Hid (w.grownBy w4 (some b)) := only_trans (only_of_below HL.out _) hgr
    have HS4 : Hid (w4.rangeAt w.heap.size 0 (cL c) ∧ w4.cell? ⟨s, 0, none⟩ = some (.map (some b))) := ⟨SetIs.range HG.out.1 hturn.grown hlt3 (by omega), set_cell S4.out⟩
    have HRUN := Lib.hid hrun
    clear hcell hown hturn hgr hrun
    generalize hG : w.heap.size = G at *
    refine wp_region_held_drew (S := fun w' => w'.rangeAt G 0 (cL c) ∧ w'.cell? ⟨s, 0, none⟩ = some (.map (some b))) (by kernel_rfl) HG.out (fun h0 => ?_)
    refine hd_take 0 (some 9) (.pointer (some ⟨s, 0, none⟩)) rfl rfl (by kernel_rfl) (by kernel_rfl) (by kernel_rfl) (fun _ _ _ h => h) (Or.inl ⟨by rfl, fun w hw => by go_simp⟩) h0 ?_
    simp only [Act.put, List.setIfInBounds_toArray, List.set_cons_zero, List.set_cons_succ]
    refine hd_take 1 (some 10) (.pointer (some ⟨s, 0, none⟩)) rfl rfl (by kernel_rfl) (by kernel_rfl) (by kernel_rfl) (fun _ _ _ h => h) (Or.inl ⟨by rfl, fun w hw => by go_simp⟩) h0 ?_
    simp only [Act.put, List.setIfInBounds_toArray, List.set_cons_zero, List.set_cons_succ]
    refine hd_take 2 (some 11) (.pointer (some ⟨s, 0, none⟩)) rfl rfl (by kernel_rfl) (by kernel_rfl) (by kernel_rfl) (fun _ _ _ h => h) (Or.inl ⟨by rfl, fun w hw => by go_simp⟩) h0 ?_
    simp only [Act.put, List.setIfInBounds_toArray, List.set_cons_zero, List.set_cons_succ]
    refine hd_take 3 (some 12) (.map (some b)) rfl rfl (by kernel_rfl) (by kernel_rfl) (by kernel_rfl) (fun _ _ _ h => h) (Or.inl ⟨by rfl, fun w hw => by have h16 := hw.2; go_simp⟩) h0 ?_
    simp only [Act.put, List.setIfInBounds_toArray, List.set_cons_zero, List.set_cons_succ]
    refine hd_take 4 (some 13) (.agg c.cells) rfl rfl (by kernel_rfl) (by kernel_rfl) (by kernel_rfl) (fun _ _ _ h => h) (yieldsIf_load_mid (by rfl) _ _ rfl G 0 rfl (cL c) _ (fun _ h => h.1) und17 rfl hi17) h0 ?_
    simp only [Act.put, List.setIfInBounds_toArray, List.set_cons_zero, List.set_cons_succ]
    refine wpAnyH_ready (rs := [5]) (by kernel_rfl) (by simp) (AllReadyH.cons rfl (fun K hK => ?_) AllReadyH.nil)
    refine step_del rfl rfl rfl rfl HRUN.out ?_
    refine hK.out _ _ HS4.out (fun h4 => ?_)
    clear hK K
    refine wpAnyH_done (by kernel_rfl) ?_ _
    go_wp2_with fail
    go_ret
    exact ⟨by rw [H1.out]; rfl, ⟨_, S4.out⟩, HFIN.out⟩
  · have H1 := Lib.hid (show decide (c ∈ L) = false from decide_eq_false hm)
    have H2 := Lib.hid (List.erase_of_not_mem hm)
    rw [H1.out]
    clear hm
    go_wp2_with fail
    go_ret
    exact ⟨by rw [H1.out]; rfl, ⟨D, by rw [H2.out]; exact S3.out⟩, only_of_below HL.out _⟩

/-- the one of the most bits, below k, that has a -/
def findS (L : List C) (a : List UInt8) : Nat → Option C
  | 0 => none
  | k + 1 => if ofS a (k : Int) ∈ L then some (ofS a (k : Int)) else findS L a k
theorem findS_ok {L : List C} {a : List UInt8} : ∀ {k : Nat} {c : C}, findS L a k = some c → ∃ j : Nat, j < k ∧ c = ofS a (j : Int) ∧ c ∈ L
  | 0, _, h => by cases h
  | k + 1, c, h => by
    unfold findS at h
    split at h
    · injection h with h; subst h; exact ⟨k, by omega, rfl, by assumption⟩
    · obtain ⟨j, hj, r⟩ := findS_ok h; exact ⟨j, by omega, r⟩
def FindAt (s b n : Nat) (D : DataW Unit) (L : List C) (a : List UInt8) (w : World) (i : Value) (w' : World) : Prop :=
  ∃ k : Nat, k ≤ 129 ∧ i = .int .i64 ((k : Int) - 1) ∧ findS L a 129 = findS L a k ∧ Blk w' w.heap.size 23 (cA a) ∧ Blk w' (w.heap.size + 1) 25 (C.cells ⟨List.replicate 16 0, 0⟩) ∧ SetIs w' s b n D L ∧ Below w.heap.size w w'
def FindPost (L : List C) (a : List UInt8) (w : World) (e : Ending) (w' : World) : Prop :=
  e = .returned (.tuple #[.agg ((findS L a 129).getD C0).cells, .bool (findS L a 129).isSome]) ∧ Below w.heap.size w w'

set_option linter.unusedSimpArgs false in
set_option maxRecDepth 100000 in
set_option maxHeartbeats 4000000 in
theorem sfind_any {s b n : Nat} {D : DataW Unit} {L : List C} (a : List UInt8) (ha : a.length = 16) (w : World) (hS : SetIs w s b n D L) :
    Calls Tryz.prog 18 #[.pointer (some ⟨s, 0, none⟩), .agg (cA a)] w (FindPost L a w) := by
  go_enter Tryz.func18, Tryz.ntmps18
  go_wp2_with fail
  go_loopw [6] (fun i w' => FindAt s b n D L a w i w') (fun i _ => (intOf i + 1).toNat)
  case atStart =>
    have hb : Below w.heap.size w ((w.alloc (.cells (cA a) 23)).alloc (.cells (C.cells ⟨List.replicate 16 0, 0⟩) 25)) := ((Below.refl _ _).alloc (Nat.le_refl _) _).alloc (by simp) _
    exact ⟨129, by omega, rfl, rfl, (Blk.new _ _ _).alloc _, blk_at _ _ _ _ _ (by rw [alloc_size]) rfl, hS.on hb, hb⟩
  case round =>
    obtain ⟨k, hk, rfl, hf, b0, b1, hS, hbel⟩ := hrel
    cases k with
    | zero =>
      have HZ := Lib.hid (show findS L a 129 = none from hf)
      have HS := Lib.hid hS
      clear hf hS
      go_wp2_with (first
        | (refine go_bd0 25 _ builtC rfl rfl ?_)
        | (refine go_st 25 b1 info17 rfl rfl (C_one _) rfl rfl rfl rfl ?_))
      refine ret_two Tryz.results18 (setRow_blk b1) und17 rfl info17 rfl rfl rfl ?_ rfl
      exact ⟨by rw [HZ.out]; rfl, setRow_below hbel b1 (by omega) _⟩
    | succ j =>
      have HF := Lib.hid (hf.trans (show findS L a (j + 1) = if ofS a (j : Int) ∈ L then some (ofS a (j : Int)) else findS L a j from rfl))
      have hz := ofS_len a (j : Int)
      rw [ha] at hz
      have hzs := C_size _ hz
      have hok := ofS_ok ha (j : Int)
      have hj0 : (0 : Int) ≤ ((j + 1 : Nat) : Int) - 1 := by omega
      have hj1 : ((j + 1 : Nat) : Int) - 1 = (j : Int) := by omega
      rw [hj1]
      have HS := Lib.hid hS
      have HB1 := Lib.hid b1
      have HL := Lib.hid hbel
      clear hf hS b1 hbel hj0 hj1
      go_wp2_with (refine go_ld 23 b0 und16 rfl info16 (by rw [cA_size, ha]) rfl rfl rfl ?_)
      refine (of_any a ha (j : Int) _).mono ?_
      rintro e w2 ⟨rfl, hb2⟩
      have B0 := Lib.hid (b0.below hb2 b0.lt)
      have B1 := Lib.hid (HB1.out.below hb2 HB1.out.lt)
      have S2 := Lib.hid (HS.out.on hb2)
      have L2 := Lib.hid (HL.out.trans (hb2.mono HL.out.size))
      clear hb2 b0 HB1 HS HL
      generalize ofS a (j : Int) = c at *
      go_upto_region 5 with (refine go_st 25 (Blk.new _ _ _) info17 rfl hzs (C_one _) rfl rfl rfl rfl ?_)
      have hn := new_below w2 25 #[Value.int .u8 0, Value.int .u8 0, Value.int .u8 0, Value.int .u8 0, Value.int .u8 0, Value.int .u8 0, Value.int .u8 0, Value.int .u8 0, Value.int .u8 0, Value.int .u8 0, Value.int .u8 0, Value.int .u8 0, Value.int .u8 0, Value.int .u8 0, Value.int .u8 0, Value.int .u8 0, Value.int .i64 0] c.cells
      have b7 := new_blk w2 25 #[Value.int .u8 0, Value.int .u8 0, Value.int .u8 0, Value.int .u8 0, Value.int .u8 0, Value.int .u8 0, Value.int .u8 0, Value.int .u8 0, Value.int .u8 0, Value.int .u8 0, Value.int .u8 0, Value.int .u8 0, Value.int .u8 0, Value.int .u8 0, Value.int .u8 0, Value.int .u8 0, Value.int .i64 0] c.cells
      generalize (w2.alloc (.cells #[Value.int .u8 0, Value.int .u8 0, Value.int .u8 0, Value.int .u8 0, Value.int .u8 0, Value.int .u8 0, Value.int .u8 0, Value.int .u8 0, Value.int .u8 0, Value.int .u8 0, Value.int .u8 0, Value.int .u8 0, Value.int .u8 0, Value.int .u8 0, Value.int .u8 0, Value.int .u8 0, Value.int .i64 0] 25)).setRow w2.heap.size c.cells = w3 at *
      have B03 := Lib.hid (B0.out.below hn B0.out.lt)
      have B13 := Lib.hid (B1.out.below hn B1.out.lt)
      have S3 := Lib.hid (S2.out.on hn)
      have L3 := Lib.hid (L2.out.trans (hn.mono L2.out.size))
      clear hn B0 B1 S2 L2
      go_wp2_with (refine go_ld 25 b7 und17 rfl info17 hzs rfl rfl rfl ?_)
      refine (shas_any c hok _ S3.out).mono ?_
      rintro e w4 ⟨rfl, hb4⟩
      have B04 := Lib.hid (B03.out.below hb4 B03.out.lt)
      have B14 := Lib.hid (B13.out.below hb4 B13.out.lt)
      have S4 := Lib.hid (S3.out.on hb4)
      have L4 := Lib.hid (L3.out.trans (hb4.mono L3.out.size))
      have b74 := b7.below hb4 b7.lt
      clear hb4 b7 B03 B13 S3 L3
      by_cases hm : c ∈ L
      · have HZ := Lib.hid (HF.out.trans (if_pos hm))
        rw [show decide (c ∈ L) = true from decide_eq_true hm]
        clear HF hm
        have b14 := B14.out
        go_wp2_with (first
          | (refine go_ld 25 b74 und17 rfl info17 hzs rfl rfl rfl ?_)
          | (refine go_st 25 b14 info17 rfl hzs (C_one _) rfl rfl rfl rfl ?_))
        refine ret_two Tryz.results18 (setRow_blk b14) und17 rfl info17 hzs rfl rfl ?_ rfl
        exact ⟨by rw [HZ.out]; rfl, setRow_below L4.out b14 (by omega) _⟩
      · have HZ := Lib.hid (HF.out.trans (if_neg hm))
        rw [show decide (c ∈ L) = false from decide_eq_false hm]
        clear HF hm b74
        go_wp2_with fail
        go_roundw
        case rel => exact ⟨j, by omega, by go_num, HZ.out, B04.out, B14.out, S4.out, L4.out⟩
        case measure => simp [intOf]
end Go.Proofs.YtialcnioeeikpaaGreatDoor.Ad
