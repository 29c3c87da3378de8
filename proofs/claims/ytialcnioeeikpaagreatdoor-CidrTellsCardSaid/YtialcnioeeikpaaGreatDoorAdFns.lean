/-
  Contracts of limit.Within and of package addr's Mask over this seat's translation.
-/
import Derived.Test.YtialcnioeeikpaaGreatDoorAdPure
import Derived.RegionTactic
import Derived.ChangeAlike
import Derived.Deep.MidRow
namespace Go.Proofs.YtialcnioeeikpaaGreatDoor.Ad
open Go.RowKit Go.Proofs.YtialcnioeeikpaaGreatDoor.Wd

theorem within_any (n lo hi : Int) (w : World) : Calls Tryz.prog 28 #[.int .i64 n, .int .i64 lo, .int .i64 hi] w fun e w' => e = .returned (.int .i64 (withinI n lo hi)) ∧ w' = w := by
  by_cases h1 : n < lo
  · have H := Lib.hid (show withinI n lo hi = lo by rw [withinI, if_pos h1])
    go_enter Tryz.func28, Tryz.ntmps28
    go_wp2
    go_ret
    rw [H.out]; exact ⟨rfl, rfl⟩
  · by_cases h2 : hi < n
    · have H := Lib.hid (show withinI n lo hi = hi by rw [withinI, if_neg h1, if_pos h2])
      go_enter Tryz.func28, Tryz.ntmps28
      go_wp2
      go_ret
      rw [H.out]; exact ⟨rfl, rfl⟩
    · have H := Lib.hid (show withinI n lo hi = n by rw [withinI, if_neg h1, if_neg h2])
      go_enter Tryz.func28, Tryz.ntmps28
      go_wp2
      go_ret
      rw [H.out]; exact ⟨rfl, rfl⟩

theorem info16 : (Tryz.prog.info? 23).map (·.size) = some 16 := by kernel_rfl
theorem und16 : Tryz.prog.underlying 23 = some (.array 16 5) := by kernel_rfl
theorem cA_size (l : List UInt8) : (cA l).size = l.length := by simp [cellsOf_length]
theorem cA_one (l : List UInt8) : (cA l).all (·.oneCell') = true := all_oneCell_toArray (cellsOf_one l)
/-- a variable of n cells is loaded whole -/
theorem go_ld {ops : Array Oper} {rest : List Oper} {o : Oper} {a : Act} {w : World} {Q : Exit → Act → World → Prop} {x : Operand} {g t n : Nat} {C : Array Value} {d : TypeDesc} (ty : TypeId) (hb : Blk w g t C) (hu : Tryz.prog.underlying ty = some d)
    (hd : d.isRow = true) (hi : (Tryz.prog.info? ty).map (·.size) = some n) (hn : C.size = n) (hgd : o.guard = none) (ho : o.op = .load ty x)
    (hx : a.eval x = .pointer (some ⟨g, 0, none⟩)) (h : wpList Tryz.prog ops Q rest (a.put o.dst (.agg C)) w) : wpList Tryz.prog ops Q (o :: rest) a w :=
  wpList_load_row hgd ty x ho g hx t C (0, 0) d hb hu (by cases d <;> first | rfl | cases hd) (by rw [hi, hn]) h
/-- a variable of n cells is stored whole -/
theorem go_st {ops : Array Oper} {rest : List Oper} {o : Oper} {a : Act} {w : World} {Q : Exit → Act → World → Prop} {x y : Operand} {g t n : Nat} {C D : Array Value} (ty : TypeId) (hb : Blk w g t C)
    (hi : (Tryz.prog.info? ty).map (·.size) = some n) (hn : C.size = n) (hm : D.size = n) (h1 : D.all (·.oneCell') = true) (hgd : o.guard = none) (ho : o.op = .store ty x y)
    (hx : a.eval x = .pointer (some ⟨g, 0, none⟩)) (hy : a.eval y = .agg D) (h : wpList Tryz.prog ops Q rest (a.put o.dst undef) (w.setRow g D)) : wpList Tryz.prog ops Q (o :: rest) a w :=
  wpList_store_row hgd ty x y ho g D hx hy t C hb (by rw [hi, hm]) (by rw [hn, hm]) h1 h
/-- an address is loaded whole -/
theorem ld16 {w : World} {g : Nat} {t : TypeId} {l : List UInt8} (h : Blk w g t (cA l)) (hl : l.length = 16) :
    (Instr.loadAt 23 (.pointer (some ⟨g, 0, none⟩))).run Tryz.prog w = .ok (.agg (cA l)) w := by
  simp only [Instr.loadAt, Instr.sureAddr, Sem.run_bind, Sem.run_pure, Result.andThen_ok]
  exact run_loadVar_row w g t _ (cA l) (0, 0) _ h und16 rfl (by rw [info16, cA_size, hl])
theorem setRow_blk {w : World} {g : Nat} {t : TypeId} {old new : Array Value} (h : Blk w g t old) : Blk (w.setRow g new) g t new := by
  have h' : w.heap[g]? = some (.cells old t (0, 0)) := h
  have hg := h.lt
  unfold Blk
  simp only [World.setRow]
  rw [Array.getElem?_modify]
  simp [h']
theorem setRow_far {w : World} {g k : Nat} (hk : k ≠ g) (new : Array Value) : (w.setRow g new).heap[k]? = w.heap[k]? := by
  simp only [World.setRow]
  rw [Array.getElem?_modify, if_neg (fun e => hk e.symm)]
theorem setRow_below {B g : Nat} {a w : World} {t : TypeId} {old : Array Value} (h : Below B a w) (_hb : Blk w g t old) (hg : B ≤ g) (new : Array Value) : Below B a (w.setRow g new) := by
  refine ⟨h.os, h.tape, h.output, ?_, fun i hi => ?_⟩
  · have := h.size
    simpa [World.setRow] using this
  · rw [setRow_far (by omega)]
    exact h.block i hi

/-- the one result lies in a block that was stored whole -/
theorem ret_row {fn : Func} {p : Tmp} {ty t : TypeId} {a : Act} {w : World} {g n : Nat} {old C : Array Value} {d : TypeDesc} {R : Ending → World → Prop} (hf : fn.results = #[.cell p ty]) (hb : Blk w g t old) (hu : Tryz.prog.underlying ty = some d)
    (hd : d.isRow = true) (hi : (Tryz.prog.info? ty).map (·.size) = some n) (hn : C.size = n) (hp : a.tmps.getD p undef = .pointer (some ⟨g, 0, none⟩)) (h : R (.returned (.agg C)) (w.setRow g C)) (hdf : a.defers = []) : bodyPost Tryz.prog fn R .ret a (w.setRow g C) :=
  bodyPost_ret (results_cell_row hf _ _ g t C (0, 0) d hp (setRow_blk hb) hu (by cases d <;> first | rfl | cases hd) (by rw [hi, hn])) hdf h
theorem blk_at (w : World) (t : TypeId) (cs cs' : Array Value) (g : Nat) (hg : g = w.heap.size) (hc : cs = cs') : Blk (w.alloc (.cells cs t)) g t cs' := by
  subst hg hc
  exact Blk.new w t cs
theorem alloc_size (w : World) (o : Obj) : (w.alloc o).heap.size = w.heap.size + 1 := by simp

theorem cell_a {w : World} {g : Nat} {t : TypeId} {l : List UInt8} (h : Blk w g t (cA l)) (k : Nat) : w.cell? ⟨g, k, none⟩ = (l[k]?).map fun c => Value.int .u8 (c.toNat : Int) := by
  rw [h.cell]; simp [cellsOf]; rfl

/-- what Mask has laid behind k whole bytes -/
def rowM (a : List UInt8) (k : Nat) : List UInt8 := a.take k ++ List.replicate (16 - k) 0
theorem rowM_length {a : List UInt8} (ha : a.length = 16) {k : Nat} (hk : k ≤ 16) : (rowM a k).length = 16 := by simp [rowM, ha]; omega

theorem rowM_set {a : List UInt8} (ha : a.length = 16) {k : Nat} (hk : k < 16) (v : UInt8) : (rowM a k).set k v = a.take k ++ v :: List.replicate (15 - k) 0 := by
  rw [rowM, set_mid _ _ _ _ _ (by simp [ha]; omega) (by omega), show 16 - k - 1 = 15 - k by omega]
theorem rowM_next {a : List UInt8} (ha : a.length = 16) {k : Nat} (hk : k < 16) (c : UInt8) (hc : a[k]? = some c) : (rowM a k).set k c = rowM a (k + 1) := by
  rw [rowM_set ha hk, rowM, List.take_add_one, hc, show 16 - (k + 1) = 15 - k by omega]
  simp
theorem rowM_last {a : List UInt8} (ha : a.length = 16) {k : Nat} (hk : k < 16) (c : UInt8) (hc : a[k]? = some c) (m : Nat) (hm : m < 8) : (rowM a k).set k (maskB c m) = maskS a (8 * k + m) := by
  rw [rowM_set ha hk, maskS_at a k m c hc hm, ha, show 16 - k - 1 = 15 - k by omega]
theorem andNot_mask (c : UInt8) (m : Nat) (hm : m < 8) : bits .andNot .u8 (c.toNat : Int) (255 / 2 ^ m) = ((maskB c m).toNat : Int) := by
  have hc : c.toNat < 256 := c.toNat_lt
  have hd : ((255 : Int) / 2 ^ m) = ((255 / 2 ^ m : Nat) : Int) := by simp
  rw [hd, u8_andNot_nat c.toNat (255 / 2 ^ m) hc (Nat.lt_of_le_of_lt (Nat.div_le_self _ _) (by omega))]
  have hm' : ∀ m : Fin 8, (255 - 255 / 2 ^ m.1 : Nat) = (~~~((255 : UInt8) >>> UInt8.ofNat m.1)).toNat := by decide
  have := hm' ⟨m, hm⟩
  simp only at this
  rw [this, maskB, UInt8.toNat_and]

def MaskAt (a : List UInt8) (N : Nat) (w : World) (x i : Value) (w' : World) : Prop :=
  ∃ k m : Nat, k ≤ 16 ∧ 8 * k + m = N ∧ i = .int .i64 k ∧ x = .int .i64 (m : Int) ∧ Blk w' w.heap.size 23 (cA a) ∧ Blk w' (w.heap.size + 1) 23 (cA (List.replicate 16 0)) ∧
    Blk w' (w.heap.size + 2) 23 (cA (rowM a k)) ∧ Below w.heap.size w w'

set_option maxHeartbeats 1000000 in
theorem mask_in (a : List UInt8) (ha : a.length = 16) (n : Int) (N : Nat) (hN : N ≤ 128) (hI : withinI n 0 128 = (N : Int)) (w : World) :
    Calls Tryz.prog 29 #[.agg (cA a), .int .i64 n] w fun e w' => e = .returned (.agg (cA (maskS a N))) ∧ Below w.heap.size w w' := by
  have HI := Lib.hid hI
  clear hI
  go_enter Tryz.func29, Tryz.ntmps29
  go_wp2_with (go_at_call 28; refine (within_any _ _ _ _).mono ?_; rintro e w' ⟨rfl, rfl⟩; rw [HI.out])
  clear HI
  go_loopw [6, 10] (fun x i w' => MaskAt a N w x i w') (fun _ i _ => 16 - (intOf i).toNat)
  case atStart => exact ⟨0, N, by omega, by omega, rfl, rfl, ((Blk.new _ _ _).alloc _).alloc _, (blk_at _ _ _ _ _ (by rw [alloc_size]) rfl).alloc _, blk_at _ _ _ _ _ (by rw [alloc_size, alloc_size]) (by simp [rowM]; rfl), ((((Below.refl _ _).alloc (Nat.le_refl _) _).alloc (by simp) _).alloc (by simp; omega) _)⟩
  case round =>
    obtain ⟨k, m, hk, h8, rfl, rfl, b0, b1, b2, hbel⟩ := hrel
    have c0 := cell_a b0 k
    have c2 := cell_a b2 k
    have f2 := b2.frozen k
    by_cases hlt : k < 16
    · have e0 : a[k]? = some (a[k]'(by omega)) := List.getElem?_eq_getElem (by omega)
      have e2 : (rowM a k)[k]? = some 0 := by
        rw [rowM, List.getElem?_append_right (by rw [List.length_take]; omega), List.getElem?_replicate, if_pos (by rw [List.length_take]; omega)]
      have HE := Lib.hid e0
      rw [e0] at c0
      rw [e2] at c2
      simp only [Option.map_some] at c0 c2
      have HB0 := Lib.hid b0
      have HB1 := Lib.hid b1
      have HB2 := Lib.hid b2
      clear b0 b1 b2 e0 e2
      generalize a[k] = c at *
      by_cases h7 : m < 8
      · have HV := Lib.hid (andNot_mask c m h7)
        have HL := Lib.hid (rowM_last ha hlt c HE.out m h7)
        go_wp2_with fail
        go_region
        all_goals (
          rw [HV.out]
          generalize hv : Value.int .u8 ((maskB c m).toNat : Int) = v
          have b2 := (HB2.out).set_ k v
          have b1 := (HB1.out).far (p := ⟨w.heap.size + 1 + 1, k, none⟩) (by simp) v
          have hbel2 := hbel.setCell (p := ⟨w.heap.size + 1 + 1, k, none⟩) (by simp; omega) v
          rw [← hv, cA_set, HL.out, h8, hv] at b2
          have e16 : (maskS a N).length = 16 := by rw [maskS_length, ha]
          clear hv HL HV
          go_wp2_with (first
            | (refine go_ld 23 (by exact b2) und16 rfl info16 (by rw [cA_size, e16]) rfl rfl rfl ?_)
            | (refine go_st 23 (by exact b1) info16 rfl (by rw [cA_size, e16]) (cA_one _) rfl rfl rfl rfl ?_))
          exact ret_row Tryz.results29 (by exact b1) und16 rfl info16 (by rw [cA_size, e16]) rfl ⟨rfl, setRow_below (by exact hbel2.drew) (by exact b1) (by omega) _⟩ rfl)
      · have HN := Lib.hid (rowM_next ha hlt c HE.out)
        go_wp2
        go_roundw
        case rel =>
          have b2 := (HB2.out).set_ k (.int .u8 (c.toNat : Int))
          rw [cA_set, HN.out] at b2
          exact ⟨k + 1, m - 8, by omega, by omega, by go_num, by go_num, (HB0.out).far (by simp; omega) _, (HB1.out).far (by simp) _, b2, hbel.setCell (by simp; omega) _⟩
        case measure => simp [intOf]; omega
    · obtain rfl : k = 16 := by omega
      clear c0 c2 f2
      have e16 : (rowM a 16).length = 16 := rowM_length ha (by omega)
      go_wp2_with (first
        | (refine go_ld 23 b2 und16 rfl info16 (by rw [cA_size, e16]) rfl rfl rfl ?_)
        | (refine go_st 23 b1 info16 rfl (by rw [cA_size, e16]) (cA_one _) rfl rfl rfl rfl ?_))
      have e : rowM a 16 = maskS a N := by
        rw [maskS_all a N (by omega), rowM, List.take_of_length_le (by omega)]; simp
      rw [e]
      exact ret_row Tryz.results29 b1 und16 rfl info16 (by rw [cA_size, ← e, e16]) rfl ⟨rfl, setRow_below hbel b1 (by omega) _⟩ rfl

theorem mask_any (a : List UInt8) (ha : a.length = 16) (n : Int) (w : World) :
    Calls Tryz.prog 29 #[.agg (cA a), .int .i64 n] w fun e w' => e = .returned (.agg (cA (maskS a (bitN n)))) ∧ Below w.heap.size w w' :=
  mask_in a ha n (bitN n) (bitN_le n) (bitN_is n) w
end Go.Proofs.YtialcnioeeikpaaGreatDoor.Ad
