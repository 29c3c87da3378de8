/-
  Contract of package cidr's All over this seat's translation.
-/
import Derived.Test.YtialcnioeeikpaaGreatDoorMSet
import Derived.Test.YtialcnioeeikpaaGreatDoorShelf
import Derived.OwnWalk
import Derived.Sort.OwnSorted
import Derived.Great.BuildSlice
namespace Go.Proofs.YtialcnioeeikpaaGreatDoor.Ad
open Go.RowKit Go.Maps Go.Sort Go.Proofs.YtialcnioeeikpaaGreatDoor.Wd

theorem infoC : (Tryz.prog.info? 25).map (fun i => (i.zero, i.size, i.bytes)) = some (some (.agg (C.cells ⟨List.replicate 16 0, 0⟩)), 17, 24) := by kernel_rfl
theorem undL : Tryz.prog.underlying 39 = some (.slice 25) := by kernel_rfl
theorem aggC (w : World) : (isAgg 25).run Tryz.prog w = .ok true w := by kernel_rfl
theorem sizeC (w : World) : (Go.sizeOf 25).run Tryz.prog w = .ok 17 w := by kernel_rfl

theorem fill17 (l : List UInt8) (h : l.length = 16) (n : Int) : Instr.fill (fun i => some (i * 17, 17)) ((Array.range (1 * 17)).map ((Value.agg (C.cells ⟨List.replicate 16 0, 0⟩)).cells[· % (Value.agg (C.cells ⟨List.replicate 16 0, 0⟩)).cells.size]!)) [(0, .agg (C.cells ⟨l, n⟩))] = some (C.cells ⟨l, n⟩) := by
  obtain ⟨x0, x1, x2, x3, x4, x5, x6, x7, x8, x9, x10, x11, x12, x13, x14, x15, rfl⟩ := list16 h
  kernel_rfl
theorem go_bs17 {ops : Array Oper} {rest : List Oper} {o : Oper} {a : Act} {w : World} {Q : Exit → Act → World → Prop} {x : Operand} (c : C) (hc : c.a.length = 16) (hg : o.guard = none) (ho : o.op = .buildSlice 39 1 #[(0, x)])
    (hx : a.eval x = .agg c.cells) (h : wpList Tryz.prog ops Q rest (a.put o.dst (.slice (some ⟨w.heap.size, 0, none⟩) 1 1)) (w.alloc (.cells c.cells 25))) : wpList Tryz.prog ops Q (o :: rest) a w := by
  obtain ⟨i0, hi, hz0, hz1, hz2⟩ := info_parts infoC
  refine wpList_buildSlice hg 39 25 1 _ ho c.cells i0 _ undL hi hz0 (by rw [hz1]; omega) (by rw [hz1]; omega) ?_ h
  simp only [List.map_toArray, List.map_cons, List.map_nil, hx]
  rw [hz1]
  exact fill17 c.a hc c.n
theorem cells_new (w : World) (t : TypeId) (l : List Value) : ∀ j u, l[j]? = some u → (w.alloc (.cells l.toArray t)).cell? ((⟨w.heap.size, 0, none⟩ : Addr).add j) = some u := by
  intro j u h
  rw [show ((⟨w.heap.size, 0, none⟩ : Addr).add j) = ⟨w.heap.size, j, none⟩ by (simp [Addr.add]; try omega), (Blk.new w t l.toArray).cell]
  simpa using h

set_option linter.unusedSimpArgs false in
set_option maxRecDepth 100000 in
set_option maxHeartbeats 4000000 in
theorem sall_any {s b n : Nat} {D : DataW Unit} {L : List C} (hL : L.length ≤ 1000) (w : World) (hS : SetIs w s b n D L) :
    Calls Tryz.prog 20 #[.pointer (some ⟨s, 0, none⟩)] w (AllPost L w) := by
  obtain ⟨i0, hi, hz0, hz1, hz2⟩ := info_parts infoC
  have hmax : Maps.size D ≤ 1000 := by rw [hS.size]; exact hL
  go_enter Tryz.func20, Tryz.ntmps20
  have hcell := set_cell hS
  have hown := hS.own
  go_wp2_with (first
    | (at_len; refine wpList_len_own _ rfl _ 55 rfl 25 59 undM _ b n _ rfl hown ?_)
    | (at_make; refine wpList_make_own _ rfl _ _ 39 rfl w.heap.size 25 i0 _ 17 undL hi hz0 hz1 _ _ _ (Maps.size D) rfl rfl rfl (by rw [hz2]; omega) (by unfold maxLen; omega) (Nat.le_refl _) ?_; intro w1 hrow1 hg1; have hcell1 : w1.cell? ⟨s, 0, none⟩ = some (.map (some b)) := set_cell (hS.on ((Below.refl _ _).grown hg1 (Nat.le_refl _) (fun j hj => by cases hj))))
    | (at_range; refine wpList_range_own _ rfl _ 55 rfl 25 59 keyedC undM _ b n _ rfl (hown.kept hg1 (by simp)) ?_; intro w0 hrg0 hg0 hs0)
    | go_in)
  go_frame
  have hne : b ≠ w.heap.size := Nat.ne_of_lt hown.lt
  go_loopw [3] (fun v wr => ∃ (left : Lit → Bool) (cnt : Nat) (ss : List C16), wr.ranges Tryz.prog 25 (unitElem (H := Unit)) b w1.heap.size n D left cnt ∧ ss.length + cnt ≤ Maps.size D ∧
      wr.ownsRow w.heap.size 25 17 v ss.length (flat ss) ∧ v ≠ .slice none 0 0 ∧ Coll L left ss ∧ Below w.heap.size w wr)
    (fun _ wr => wr.rangeLeft b w1.heap.size)
  case atStart =>
    exact ⟨_, _, [], hrg0, by simp, hrow1.kept hg0 (Or.inr (by simp [Value.ownBlock])), by simp, Coll.start hS,
      ((Below.refl _ _).grown hg1 (Nat.le_refl _) (fun j hj => by cases hj)).grown hg0 hg1.size (fun j hj => by cases hj)⟩
  case round =>
    obtain ⟨left, cnt, ss, hrg, hcs, hrow, hnn, hC, hnx⟩ := hrel
    go_wp2_with (first
      | (at_next; refine wpList_next_ranges _ rfl _ rfl 25 keyedC (unitElem (H := Unit)) (fun v : Value => v) (fun _ : Unit => Value.agg #[]) (fun key kl _ => ⟨key, rfl⟩) (fun v y hv => ⟨(), (unitElem_inv hv).1⟩) b w1.heap.size n _ _ _ rfl hrg ?_ ?_)
      | go_in)
    · intro hc0 hl0
      rcases hrow.2 with ⟨hnil, _⟩ | ⟨g, cap, cur, rfl, hbase, hb, h1, h2, h3, h4⟩
      · exact absurd hnil hnn
      have hH := holdsK_of_block hb h4
      have hgl : g < wr.heap.size := (Array.getElem?_eq_some_iff.1 hb).1
      have hc := AnyQ.slices_SortFunc_total Tryz.sort38 17 aggC sizeC e16 e16_len e16_one cf16 swo16 39 #[] g 0 cap ss.toArray wr (fun _ _ => by kernel_rfl) (cmpLays16 _ _ _ _) hH hgl (by simp; omega) tot16
      simp only [List.size_toArray] at hc
      have HC := Lib.hid hc
      have HP := Lib.hid (hC.perm hS.nodup hl0)
      clear hH hcell hrow hrg hS hown hrow1 hrg0 hC hl0 hc
      go_wp2_with (first
        | (go_at_call 38; refine HC.out.mono ?_; rintro e w' ⟨rfl, nn, os, rfl⟩)
        | go_in)
      go_ret
      have hlen : (ss.mergeSort fun x y => !(Go.Proofs.ltOf cf16) y x).length = ss.length := List.length_mergeSort _
      have hperm := (List.mergeSort_perm ss fun x y => !(Go.Proofs.ltOf cf16) y x)
      have hH := holdsK_of_block hb h4
      refine ⟨g, cap, _, by rw [hlen]; rfl, (hperm.map Subtype.val).trans HP.out, inOrder_sort ss, RowC.of_holds (holdsK_sortWorldK_c _ _ _ _ _ _ _ _ _ hH hgl (by simp)), hbase, ?_, hnx.grown (grownBy_sortedC _) hnx.size (fun j hj => by cases hj; exact hbase)⟩
      exact Nat.lt_of_lt_of_le hgl (grownBy_sortedC _).size
    · intro x kl yd yp w2 cnt2 hkey hlk hv hat hrg2 hlt hg2 hs2 hen
      obtain ⟨c, hcL, rfl, rfl⟩ := Coll.key hS hkey hat
      have hok := hS.ok c hcL
      have hzs := C_size c hok.len
      have hrow2 := hrow.kept hg2 (Or.inr (row_ne_iter hrow hrg).symm)
      clear hs2
      go_upto_region 5 with (refine go_st 25 (Blk.new _ _ _) info17 rfl hzs (C_one _) rfl rfl rfl rfl ?_)
      have hn := new_below w2 25 #[Value.int .u8 0, Value.int .u8 0, Value.int .u8 0, Value.int .u8 0, Value.int .u8 0, Value.int .u8 0, Value.int .u8 0, Value.int .u8 0, Value.int .u8 0, Value.int .u8 0, Value.int .u8 0, Value.int .u8 0, Value.int .u8 0, Value.int .u8 0, Value.int .u8 0, Value.int .u8 0, Value.int .i64 0] c.cells
      have b7 := new_blk w2 25 #[Value.int .u8 0, Value.int .u8 0, Value.int .u8 0, Value.int .u8 0, Value.int .u8 0, Value.int .u8 0, Value.int .u8 0, Value.int .u8 0, Value.int .u8 0, Value.int .u8 0, Value.int .u8 0, Value.int .u8 0, Value.int .u8 0, Value.int .u8 0, Value.int .u8 0, Value.int .u8 0, Value.int .i64 0] c.cells
      generalize (w2.alloc (.cells #[Value.int .u8 0, Value.int .u8 0, Value.int .u8 0, Value.int .u8 0, Value.int .u8 0, Value.int .u8 0, Value.int .u8 0, Value.int .u8 0, Value.int .u8 0, Value.int .u8 0, Value.int .u8 0, Value.int .u8 0, Value.int .u8 0, Value.int .u8 0, Value.int .u8 0, Value.int .u8 0, Value.int .i64 0] 25)).setRow w2.heap.size c.cells = w3 at *
      have hg3 := fun row => only_of_below hn row
      have hrow3 := hrow2.kept (hg3 (some w1.heap.size)) (Or.inr (row_ne_iter hrow hrg).symm)
      have hrg3 := hrg2.kept (hg3 none) (by simp) (by simp)
      have hsz := hnx.size
      have hsz2 := hg2.size
      have hsz3 := hn.size
      have L3 : Below w.heap.size w w3 := (hnx.grown hg2 hsz (fun j hj => by cases hj; exact hg1.size)).trans (hn.mono (by omega))
      have HOK := Lib.hid hS.ok
      have HBL := Lib.hid hown.lt
      have HH := Lib.hid (And.intro L3 (And.intro hrg3 hrg))
      clear hrow hrow2 hrg2 hn hg3 hrg3 hnx hg2 hrg hrg0 hrow1 hS hown
      go_wp2_with (first
        | (refine go_ld 25 b7 und17 rfl info17 hzs rfl rfl rfl ?_)
        | (refine go_bs17 c hok.len rfl rfl rfl ?_)
        | (at_builtin; refine wpList_append_own _ rfl _ _ 39 rfl w.heap.size 25 i0 _ 17 24 undL hi hz0 hz1 hz2 (by simp [Value.cells, C_size]) (by decide) _ _ _ rfl (hrow3.alloc _) ⟨w3.heap.size, 0, none⟩ 1 1 (cL c) rfl (by rw [cL_len c hok.len]) (cells_new _ _ _) (e16_one ⟨c, hok.len⟩) (by unfold maxLen; omega) (by omega) (by simp; omega) ?_; intro v' w4 hown' hg4 hnil4; go_frame)
        | go_in)
      have hrg4 := (HH.out.2.1.alloc _).kept hg4 (row_ne_low hrow3 HBL.out) (row_ne_iter hrow3 HH.out.2.1)
      go_roundw
      case rel =>
        refine ⟨_, cnt2, ss ++ [⟨c, hok.len⟩], hrg4, by simp; omega, by rw [flat_append, flat_one, List.length_append]; exact hown', fun hv' => by have := (hnil4.1 hv').2; omega, hC.step HOK.out ⟨c, hok.len⟩ hcL hlk, ?_⟩
        exact (HH.out.1.alloc (by omega) _).grown hg4 (by simp; omega) (fun j hj => (hrow3.lt j hj).1)
      case measure => rw [hrg4.left_eq, HH.out.2.2.left_eq]; exact hlt
end Go.Proofs.YtialcnioeeikpaaGreatDoor.Ad
