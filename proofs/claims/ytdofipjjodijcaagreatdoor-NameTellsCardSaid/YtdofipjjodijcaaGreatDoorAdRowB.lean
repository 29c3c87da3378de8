/-
  Contract of package addr's appendRow at bytes, in base 10, over this seat's translation.
-/
import Derived.Test.YtdofipjjodijcaaGreatDoorAdEnv
import Derived.Test.YtdofipjjodijcaaGreatDoorApp
namespace Go.Proofs.YtdofipjjodijcaaGreatDoor.Ad
open Go.RowKit Go.Proofs.YtdofipjjodijcaaGreatDoor.Wd Go.Proofs.YtdofipjjodijcaaGreatDoor.Asc

theorem info81 : (Tryz.prog.info? 5).map (fun i => (i.zero, i.size, i.bytes)) = some (some (.int .u8 0), 1, 1) := by kernel_rfl
/-- the first k numbers of a row, with a sign between two -/
def rowT (sign : UInt8) (dig : Int → List UInt8) (l : List Int) : Nat → List UInt8
  | 0 => []
  | k + 1 => rowT sign dig l k ++ ((if 0 < k then [sign] else []) ++ dig (l.getD k 0))
theorem itoa_byte : ∀ c : Fin 256, (Lib.itoa (c.1 : Int)).length ≤ 3 := by decide +kernel
theorem itoa_u8 (c : UInt8) : (Lib.itoa (c.toNat : Int)).length ≤ 3 := itoa_byte ⟨c.toNat, c.toNat_lt⟩
def ints (l : List UInt8) : List Int := l.map fun c => (c.toNat : Int)
theorem ints_get {l : List UInt8} {k : Nat} {c : UInt8} (h : l[k]? = some c) : (ints l).getD k 0 = (c.toNat : Int) := by
  simp [ints, List.getD, h]
theorem rowT_len (l : List UInt8) : ∀ k, k ≤ l.length → (rowT 46 Lib.itoa (ints l) k).length ≤ 4 * k
  | 0, _ => by simp [rowT]
  | k + 1, h => by
    have h1 := rowT_len l k (by omega)
    have h2 : l[k]? = some l[k] := List.getElem?_eq_getElem (by omega)
    have h3 := itoa_u8 l[k]
    rw [rowT, ints_get h2, List.length_append, List.length_append]
    split <;> simp <;> omega
theorem below_tab {B B' : Nat} {w : World} (hE : Env B w) (h : B ≤ B') : Lib.TabBelow Tryz.prog B' w "internal/strconv.uint64pow10" .u64 Lib.pow10Tab := fun w' hb => hE.tab w' (hb.mono h)

theorem own_more {w : World} {B : Nat} {v : Value} {xs ys : List UInt8} (h : w.ownsRow B 5 1 v (xs.length + ys.length) (cellsOf xs ++ Lib.byteCells ys)) : Own w B v (xs ++ ys) := by
  unfold Own
  rw [List.length_append, cellsOf_append]
  exact h
theorem one_src (w : World) (c : UInt8) : Src (w.alloc (.cells #[.int .u8 (c.toNat : Int)] 5)) (some ⟨w.heap.size, 0, none⟩) 1 [c] := Src.marked w _ _ _ [c] rfl

def RowAt (B : Nat) (ys : List UInt8) (w : World) (t i : Value) (w' : World) : Prop :=
  ∃ k : Nat, k ≤ ys.length ∧ i = .int .i64 k ∧ Own w' w.heap.size t (rowT 46 Lib.itoa (ints ys) k) ∧ Below w.heap.size w w' ∧ Env B w'

set_option maxHeartbeats 2000000 in
theorem rowB_any {B : Nat} (g n cp t : Nat) (ys : List UInt8) (w : World) (hE : Env B w) (hb : Blk w g t (cA ys)) (hn : ys.length = n) (hn16 : n ≤ 16) :
    Calls Tryz.prog 29 #[.slice none 0 0, .slice (some ⟨g, 0, none⟩) n cp, .int .u8 46, .int .i64 10] w fun e w' =>
      ∃ v, e = .returned v ∧ Own w' w.heap.size v (rowT 46 Lib.itoa (ints ys) n) ∧ Below w.heap.size w w' := by
  have HE := Lib.hid hE
  have HB := Lib.hid hb
  have h16 : ys.length ≤ 16 := by omega
  have HN := Lib.hid hn
  clear hE hb
  go_enter Tryz.func29, Tryz.ntmps29
  go_wp2_with fail
  go_loopw [0, 13] (fun t i w' => RowAt B ys w t i w') (fun _ i _ => n - (intOf i).toNat)
  case atStart => exact ⟨0, by omega, rfl, ⟨rfl, .inl ⟨rfl, rfl⟩⟩, Below.refl _ _, HE.out⟩
  case round =>
    obtain ⟨k, hk, rfl, hown, hbel, hE1⟩ := hrel
    have HO := Lib.hid hown
    have HL := Lib.hid hbel
    have HE1 := Lib.hid hE1
    clear hown hbel hE1
    by_cases hlt : k < n
    · have hkn : (k : Int) < (n : Int) := by omega
      have hcell := cell_a (HB.out.below HL.out HB.out.lt) k
      have hget : ys[k]? = some (ys[k]'(by omega)) := List.getElem?_eq_getElem (by omega)
      have HG := Lib.hid hget
      rw [hget] at hcell
      simp only [Option.map_some] at hcell
      have hlen := rowT_len ys k hk
      have hc := (ys[k]'(by omega)).toNat_lt
      generalize ys[k]'(by omega) = c at *
      clear hget
      have hsz := HL.out.size
      by_cases hk0 : k = 0
      · subst hk0
        go_wp2_with fail
        refine (Tryz.strconv_AppendInt_10 w.heap.size _ (c.toNat : Int) (by omega) (by omega) _ _ wr HO.out (by omega) (by omega) (below_tab HE1.out HE.out.le)).mono ?_
        rintro e w2 ⟨v2, rfl, hown2, hb2, -⟩
        have HO2 := Lib.hid (own_more hown2)
        have HL2 := Lib.hid (HL.out.trans hb2)
        have HE2 := Lib.hid (HE1.out.below (hb2.mono HE.out.le))
        clear hown2 hb2
        go_wp2_with fail
        go_roundw
        case rel => exact ⟨1, by omega, by go_num, by rw [rowT, ints_get HG.out]; exact HO2.out, HL2.out, HE2.out⟩
        case measure => simp [intOf]; omega
      · have hkp : (0 : Int) < (k : Int) := by omega
        have hkn2 : 0 < k := by omega
        go_wp2_with (at_builtin; refine wpList_app rfl _ _ 30 rfl Tryz.underlying30 info81 w.heap.size _ _ rfl (HO.out.alloc _) _ 1 1 [46] rfl (one_src wr 46) (by omega) (by simp; omega) ?_; intro v1 w1 hown1 hb1; refine Hid.out ?_)
        have hbA : Below w.heap.size w (wr.alloc (.cells #[.int .u8 46] 5)) := HL.out.alloc hsz _
        have hbA2 : Below w.heap.size wr (wr.alloc (.cells #[.int .u8 46] 5)) := (Below.refl _ _).alloc hsz _
        have HL1 := Lib.hid (hbA.trans hb1)
        have HEA := Lib.hid ((HE1.out.below (hbA2.mono HE.out.le)).below (hb1.mono HE.out.le))
        have hsz1 := HL1.out.size
        clear hb1 hbA hbA2
        refine Lib.hid ?_
        go_wp2_with fail
        refine (Tryz.strconv_AppendInt_10 w.heap.size _ (c.toNat : Int) (by omega) (by omega) _ _ w1 hown1.out (by omega) (by rw [List.length_append]; simp; omega) (below_tab HEA.out HE.out.le)).mono ?_
        rintro e w2 ⟨v2, rfl, hown2, hb2, -⟩
        have HO2 := Lib.hid (own_more hown2)
        have HL2 := Lib.hid (HL1.out.trans hb2)
        have HE2 := Lib.hid (HEA.out.below (hb2.mono HE.out.le))
        clear hown2 hb2
        go_wp2_with fail
        go_roundw
        case rel => exact ⟨k + 1, by omega, by go_num, by rw [rowT, ints_get HG.out, if_pos hkn2, ← List.append_assoc]; exact HO2.out, HL2.out, HE2.out⟩
        case measure => simp [intOf]; omega
    · obtain rfl : k = n := by omega
      go_wp2
      go_ret
      exact ⟨_, rfl, HO.out, HL.out⟩
end Go.Proofs.YtdofipjjodijcaaGreatDoor.Ad
