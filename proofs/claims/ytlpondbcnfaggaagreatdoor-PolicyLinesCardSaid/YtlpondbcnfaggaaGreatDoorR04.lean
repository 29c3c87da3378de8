/-
  append onto bytes of the call's own, from a source that may be nil, empty or not.
-/
import Derived.Test.YtlpondbcnfaggaaGreatDoorR01
import Derived.Maps.AppendAt
import Derived.OwnWalk
import Derived.Test.YtlpondbcnfaggaaGreatDoorR03
namespace Go.Proofs.YtlpondbcnfaggaaGreatDoor.Wd
open Go.RowKit

/-- the slice v owns the bytes xs, in blocks from B on -/
def Own (w : World) (B : Nat) (v : Value) (xs : List UInt8) : Prop := w.ownsRow B 5 1 v xs.length (cellsOf xs)

theorem Own.empty (w : World) (B : Nat) (hB : B ≤ w.heap.size) : Own (w.alloc (.cells #[] 5)) B (.slice (some ⟨w.heap.size, 0, none⟩) 0 0) [] :=
  ⟨rfl, .inr ⟨w.heap.size, 0, #[], rfl, hB, heap_alloc_new w _, Nat.le_refl _, Nat.zero_le _, rfl, rfl⟩⟩
theorem Own.alloc {w : World} {B : Nat} {v : Value} {xs : List UInt8} (h : Own w B v xs) (o : Obj) : Own (w.alloc o) B v xs := World.ownsRow.alloc h o
theorem Own.src {w : World} {B : Nat} {v : Value} {xs : List UInt8} (h : Own w B v xs) : ∃ A c, v = .slice A xs.length c ∧ xs.length ≤ c ∧ Src w A xs.length xs := by
  obtain ⟨hl, h0 | ⟨g, cap, cur, hv, hB, hh, hc, _, _, ht⟩⟩ := h
  · obtain ⟨rfl, hn⟩ := h0
    have : xs = [] := List.eq_nil_of_length_eq_zero hn
    subst this
    exact ⟨none, 0, rfl, Nat.le_refl _, Src.nil w⟩
  · refine ⟨_, cap, hv, hc, rfl, fun _ => ⟨_, rfl, ?_, fun j c hj => ?_⟩⟩
    · exact Blk.lt (t := 5) (cs := cur) hh
    · rw [add_none, Nat.zero_add, Blk.cell (t := 5) (cs := cur) hh]
      have h2 := cellsOf_get hj
      rw [← ht, Nat.mul_one, List.getElem?_take] at h2
      split at h2
      · rw [← Array.getElem?_toList]; exact h2
      · cases h2
theorem Own.below {w w' : World} {B B' : Nat} {v : Value} {xs : List UInt8} (h : Own w B v xs) (hb : Below B' w w') (hB : w.heap.size ≤ B') : Own w' B v xs := by
  obtain ⟨hl, h0 | ⟨g, cap, cur, hv, hg, hh, r⟩⟩ := h
  · exact ⟨hl, .inl h0⟩
  · exact ⟨hl, .inr ⟨g, cap, cur, hv, hg, (hb.block g (by have := Blk.lt (t := 5) (cs := cur) hh; omega)).trans hh, r⟩⟩

section
variable {P : Program} {w : World}

theorem run_app_nil {base : Nat} {t ty e : TypeId} {i : TypeInfo} {size : Nat} (ht : P.underlying t = some (.slice e)) (hi : P.info? e = some i)
    {v : Value} {n : Nat} {xs : List Value} (hown : w.ownsRow base e size v n xs) (c : Nat) : (Builtin.append_ #[t, t] ty #[v, .slice none 0 c]).run P w = .ok v w := by
  obtain ⟨_, ⟨rfl, rfl⟩ | ⟨g, cap, cur, rfl, _, _, hnc, _⟩⟩ := hown
  · simp [Builtin.append_, run_underlying ht, sizeOf, typeInfo, hi, Builtin.lenOf, Builtin.firstCells]
  · simp [Builtin.append_, run_underlying ht, sizeOf, typeInfo, hi, Builtin.lenOf, Builtin.firstCells, hnc, storeCells]

theorem run_app {B : Nat} {t ty : TypeId} {i : TypeInfo} (ht : P.underlying t = some (.slice 5)) (hi : P.info? 5 = some i) (hz : i.zero = some (.int .u8 0)) (hs1 : i.size = 1) (hb1 : i.bytes = 1)
    {v : Value} {xs ys : List UInt8} (hown : Own w B v xs) {A : Option Addr} {m c : Nat} (hsrc : Src w A m ys) (hlen : xs.length + m ≤ 140737488355328) (hB : B ≤ w.heap.size) :
    ∃ v' w', (Builtin.append_ #[t, t] ty #[v, .slice A m c]).run P w = .ok v' w' ∧ Own w' B v' (xs ++ ys) ∧ Below B w w' := by
  have hm := hsrc.1
  cases A with
  | none =>
    have h0 : m = 0 := by
      rcases Nat.eq_zero_or_pos m with h | h
      · exact h
      · obtain ⟨ad, e, _⟩ := hsrc.2 h; cases e
    subst h0
    have : ys = [] := List.eq_nil_of_length_eq_zero hm
    subst this
    exact ⟨v, w, run_app_nil ht hi hown c, by rw [List.append_nil]; exact hown, Below.refl _ _⟩
  | some ad =>
    have hcells : ∀ j u, (cellsOf ys)[j]? = some u → w.cell? (ad.add j) = some u := by
      intro j u hu
      simp only [cellsOf, List.getElem?_map, Option.map_eq_some_iff] at hu
      obtain ⟨x, hx, rfl⟩ := hu
      have hp : 0 < m := by have := (List.getElem?_eq_some_iff.1 hx).1; omega
      obtain ⟨ad', e, _, hc⟩ := hsrc.2 hp
      injection e with e
      subst e
      exact hc j x hx
    obtain ⟨v', w', hrun, h2, h3, _, _⟩ := run_append_own_at (P := P) w B t ty 5 i (.int .u8 0) 1 1 ht hi hz hs1 hb1 rfl (by omega) v xs.length (cellsOf xs) hown ad m c (cellsOf ys) (by rw [cellsOf_length, hm, Nat.mul_one]) hcells (cellsOf_one ys)
      (by unfold maxLen; omega) (by omega) hB
    refine ⟨v', w', hrun, ?_, (Below.refl _ _).grown h3 hB (fun k hk => ?_)⟩
    · unfold Own
      rw [List.length_append, cellsOf_append, hm]
      exact h2
    · obtain ⟨_, ⟨rfl, _⟩ | ⟨g, cap, cur, rfl, hg, _⟩⟩ := hown
      · simp [Value.ownBlock] at hk
      · simp [Value.ownBlock] at hk; omega

theorem wpList_app {ops : Array Oper} {rest : List Oper} {o : Oper} {a : Act} {Q : Exit → Act → World → Prop} (hgd : o.guard = none) (s x : Operand) (t : TypeId)
    (ho : o.op = .call { callee := .builtin .append, args := #[s, x], argTypes := #[t, t] }) (ht : P.underlying t = some (.slice 5)) (hinfo : (P.info? 5).map (fun i => (i.zero, i.size, i.bytes)) = some (some (.int .u8 0), 1, 1))
    (B : Nat) (v : Value) (xs : List UInt8) (hs : a.eval s = v) (hown : Own w B v xs) (A : Option Addr) (m c : Nat) (ys : List UInt8) (hx : a.eval x = .slice A m c) (hsrc : Src w A m ys)
    (hlen : xs.length + m ≤ 140737488355328) (hB : B ≤ w.heap.size)
    (h : ∀ v' w', Hid (Own w' B v' (xs ++ ys)) → Below B w w' → wpList P ops Q rest (a.put o.dst v') w') : wpList P ops Q (o :: rest) a w := by
  obtain ⟨i0, hi, hz0, hz1, hz2⟩ := info_parts hinfo
  obtain ⟨v', w', hrun, h2, h3⟩ := run_app (ty := o.type) ht hi hz0 hz1 hz2 hown (c := c) hsrc hlen hB
  refine wpList_plain hgd fun K hK => ?_
  unfold Oper.wp execOp
  simp only [ho, resolve, invoke, builtin, Sem.run_bind, Sem.run_pure, Result.andThen_ok, List.map_toArray, List.map_cons, List.map_nil, hs, hx, hrun]
  exact hK _ _ (h v' w' h2 h3)
end
end Go.Proofs.YtlpondbcnfaggaaGreatDoor.Wd

/-
  Contract of package addr's appendRow at bytes, in base 10, over this seat's translation.
-/
namespace Go.Proofs.YtlpondbcnfaggaaGreatDoor.Ad
open Go.RowKit Go.Proofs.YtlpondbcnfaggaaGreatDoor.Wd Go.Proofs.YtlpondbcnfaggaaGreatDoor.Asc

theorem info81 : (Tryz.prog.info? 5).map (fun i => (i.zero, i.size, i.bytes)) = some (some (.int .u8 0), 1, 1) := by kernel_rfl
/-- the first k numbers of a row, with a sign between two -/
def rowT (sign : UInt8) (dig : Int → List UInt8) (l : List Int) : Nat → List UInt8
  | 0 => []
  | k + 1 => rowT sign dig l k ++ ((if 0 < k then [sign] else []) ++ dig (l.getD k 0))
theorem itoa_byte : ∀ c : Fin 256, (Lib.itoa (c.1 : Int)).length ≤ 3 := by decide +kernel
theorem itoa_u8 (c : UInt8) : (Lib.itoa (c.toNat : Int)).length ≤ 3 := itoa_byte ⟨c.toNat, c.toNat_lt⟩
def ints (l : List UInt8) : List Int := l.map fun c => (c.toNat : Int)
theorem ints_get {l : List UInt8} {k : Nat} {c : UInt8} (h : l[k]? = some c) : (ints l).getD k 0 = (c.toNat : Int) := by
  simp [ints, List.getD, h]
theorem rowT_len (l : List UInt8) : ∀ k, k ≤ l.length → (rowT 46 Lib.itoa (ints l) k).length ≤ 4 * k
  | 0, _ => by simp [rowT]
  | k + 1, h => by
    have h1 := rowT_len l k (by omega)
    have h2 : l[k]? = some l[k] := List.getElem?_eq_getElem (by omega)
    have h3 := itoa_u8 l[k]
    rw [rowT, ints_get h2, List.length_append, List.length_append]
    split <;> simp <;> omega
theorem below_tab {B B' : Nat} {w : World} (hE : Env B w) (h : B ≤ B') : Lib.TabBelow Tryz.prog B' w "internal/strconv.uint64pow10" .u64 Lib.pow10Tab := fun w' hb => hE.tab w' (hb.mono h)

theorem own_more {w : World} {B : Nat} {v : Value} {xs ys : List UInt8} (h : w.ownsRow B 5 1 v (xs.length + ys.length) (cellsOf xs ++ Lib.byteCells ys)) : Own w B v (xs ++ ys) := by
  unfold Own
  rw [List.length_append, cellsOf_append]
  exact h
theorem one_src (w : World) (c : UInt8) : Src (w.alloc (.cells #[.int .u8 (c.toNat : Int)] 5)) (some ⟨w.heap.size, 0, none⟩) 1 [c] := Src.marked w _ _ _ [c] rfl

def RowAt (B : Nat) (ys : List UInt8) (w : World) (t i : Value) (w' : World) : Prop :=
  ∃ k : Nat, k ≤ ys.length ∧ i = .int .i64 k ∧ Own w' w.heap.size t (rowT 46 Lib.itoa (ints ys) k) ∧ Below w.heap.size w w' ∧ Env B w'

set_option maxHeartbeats 2000000 in
theorem rowB_any {B : Nat} (g n cp t : Nat) (ys : List UInt8) (w : World) (hE : Env B w) (hb : Blk w g t (cA ys)) (hn : ys.length = n) (hn16 : n ≤ 16) :
    Calls Tryz.prog 85 #[.slice none 0 0, .slice (some ⟨g, 0, none⟩) n cp, .int .u8 46, .int .i64 10] w fun e w' =>
      ∃ v, e = .returned v ∧ Own w' w.heap.size v (rowT 46 Lib.itoa (ints ys) n) ∧ Below w.heap.size w w' := by
  have HE := Lib.hid hE
  have HB := Lib.hid hb
  have h16 : ys.length ≤ 16 := by omega
  have HN := Lib.hid hn
  clear hE hb
  go_enter Tryz.func85, Tryz.ntmps85
  go_wp2_with fail
  go_loopw [0, 13] (fun t i w' => RowAt B ys w t i w') (fun _ i _ => n - (intOf i).toNat)
  case atStart => exact ⟨0, by omega, rfl, ⟨rfl, .inl ⟨rfl, rfl⟩⟩, Below.refl _ _, HE.out⟩
  case round =>
    obtain ⟨k, hk, rfl, hown, hbel, hE1⟩ := hrel
    have HO := Lib.hid hown
    have HL := Lib.hid hbel
    have HE1 := Lib.hid hE1
    clear hown hbel hE1
    by_cases hlt : k < n
    · have hkn : (k : Int) < (n : Int) := by omega
      have hcell := cell_a (HB.out.below HL.out HB.out.lt) k
      have hget : ys[k]? = some (ys[k]'(by omega)) := List.getElem?_eq_getElem (by omega)
      have HG := Lib.hid hget
      rw [hget] at hcell
      simp only [Option.map_some] at hcell
      have hlen := rowT_len ys k hk
      have hc := (ys[k]'(by omega)).toNat_lt
      generalize ys[k]'(by omega) = c at *
      clear hget
      have hsz := HL.out.size
      by_cases hk0 : k = 0
      · subst hk0
        go_wp2_with fail
        refine (Tryz.strconv_AppendInt_10 w.heap.size _ (c.toNat : Int) (by omega) (by omega) _ _ wr HO.out (by omega) (by omega) (below_tab HE1.out HE.out.le)).mono ?_
        rintro e w2 ⟨v2, rfl, hown2, hb2, -⟩
        have HO2 := Lib.hid (own_more hown2)
        have HL2 := Lib.hid (HL.out.trans hb2)
        have HE2 := Lib.hid (HE1.out.below (hb2.mono HE.out.le))
        clear hown2 hb2
        go_wp2_with fail
        go_roundw
        case rel => exact ⟨1, by omega, by go_num, by rw [rowT, ints_get HG.out]; exact HO2.out, HL2.out, HE2.out⟩
        case measure => simp [intOf]; omega
      · have hkp : (0 : Int) < (k : Int) := by omega
        have hkn2 : 0 < k := by omega
        go_wp2_with (at_builtin; refine wpList_app rfl _ _ 110 rfl Tryz.underlying110 info81 w.heap.size _ _ rfl (HO.out.alloc _) _ 1 1 [46] rfl (one_src wr 46) (by omega) (by simp; omega) ?_; intro v1 w1 hown1 hb1; refine Hid.out ?_)
        have hbA : Below w.heap.size w (wr.alloc (.cells #[.int .u8 46] 5)) := HL.out.alloc hsz _
        have hbA2 : Below w.heap.size wr (wr.alloc (.cells #[.int .u8 46] 5)) := (Below.refl _ _).alloc hsz _
        have HL1 := Lib.hid (hbA.trans hb1)
        have HEA := Lib.hid ((HE1.out.below (hbA2.mono HE.out.le)).below (hb1.mono HE.out.le))
        have hsz1 := HL1.out.size
        clear hb1 hbA hbA2
        refine Lib.hid ?_
        go_wp2_with fail
        refine (Tryz.strconv_AppendInt_10 w.heap.size _ (c.toNat : Int) (by omega) (by omega) _ _ w1 hown1.out (by omega) (by rw [List.length_append]; simp; omega) (below_tab HEA.out HE.out.le)).mono ?_
        rintro e w2 ⟨v2, rfl, hown2, hb2, -⟩
        have HO2 := Lib.hid (own_more hown2)
        have HL2 := Lib.hid (HL1.out.trans hb2)
        have HE2 := Lib.hid (HEA.out.below (hb2.mono HE.out.le))
        clear hown2 hb2
        go_wp2_with fail
        go_roundw
        case rel => exact ⟨k + 1, by omega, by go_num, by rw [rowT, ints_get HG.out, if_pos hkn2, ← List.append_assoc]; exact HO2.out, HL2.out, HE2.out⟩
        case measure => simp [intOf]; omega
    · obtain rfl : k = n := by omega
      go_wp2
      go_ret
      exact ⟨_, rfl, HO.out, HL.out⟩
end Go.Proofs.YtlpondbcnfaggaaGreatDoor.Ad
