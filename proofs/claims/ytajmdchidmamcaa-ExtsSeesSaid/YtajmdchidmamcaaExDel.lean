/-
  Contracts over this seat's translation: slices.IndexFunc and slices.DeleteFunc at names with their types, with the closure that tells those that are no hosts.
-/
import Derived.Test.YtajmdchidmamcaaExItem
import Derived.Laws.IdiomCopy
namespace Go.Proofs.Ytajmdchidmamcaa.Ex
open Go.RowKit Go.Proofs.Ytajmdchidmamcaa.Wd Go.Proofs.Ytajmdchidmamcaa.Be Go.Proofs.Ytajmdchidmamcaa.He Go.Proofs.Ytajmdchidmamcaa.Ro

set_option maxHeartbeats 400000 in
theorem other_any (x : Int × List UInt8) (w : World) :
    Calls Try.prog 31 #[valT x] w fun e w' => e = .returned (.bool (!hostB x)) ∧ Below w.heap.size w w' := by
  have HB := Lib.hid ((Below.refl w.heap.size w).alloc (Nat.le_refl _) (.cells #[Value.int .i64 x.1, .string (str8 x.2)] 59))
  unfold valT
  by_cases h : x.1 = 0
  · have hb : (x.1 != 0) = false := by simp [h]
    have H := Lib.hid (show (!hostB x) = false by unfold hostB; simp [h])
    clear h
    go_enter Try.func31, Try.ntmps31
    go_wp2_with fail
    go_ret
    rw [H.out]
    exact ⟨rfl, HB.out⟩
  · have hb : (x.1 != 0) = true := by simp [h]
    have H := Lib.hid (show (!hostB x) = true by unfold hostB; simp [h])
    clear h
    go_enter Try.func31, Try.ntmps31
    go_wp2_with fail
    go_ret
    rw [H.out]
    exact ⟨rfl, HB.out⟩

/-- where the first one stands that is no host -/
def IdxPost (l : List (Int × List UInt8)) (w : World) (e : Ending) (w' : World) : Prop :=
  ((e = .returned (.int .i64 (-1)) ∧ ∀ x ∈ l, hostB x = true) ∨ ∃ k : Nat, e = .returned (.int .i64 (k : Int)) ∧ k < l.length ∧ (∀ x ∈ l.take k, hostB x = true) ∧ ∀ x, l[k]? = some x → hostB x = false) ∧ Below w.heap.size w w'

set_option maxRecDepth 100000 in
set_option maxHeartbeats 1000000 in
theorem idx_any (A : Option Addr) (n c : Nat) (l : List (Int × List UInt8)) (w : World) (hs : SrcE w elT A l) (hn : l.length = n) (hm : n ≤ 65535) :
    Calls Try.prog 60 #[.slice A n c, .func (.func 31) #[] #[]] w (IdxPost l w) := by
  have HS := Lib.hid hs
  have HN := Lib.hid hn
  clear hs hn
  go_enter Try.func60, Try.ntmps60
  go_wp2_with fail
  go_loopw [8] (fun i wr => ∃ k, k ≤ n ∧ i = .int .i64 (k : Int) ∧ Hid (∀ x ∈ l.take k, hostB x = true) ∧ Hid (Below w.heap.size w wr)) (fun i _ => n - (intOf i).toNat)
  case atStart => exact ⟨0, Nat.zero_le _, rfl, Lib.hid (by simp), Lib.hid (Below.refl _ _)⟩
  case round =>
    obtain ⟨k, hk, rfl, HA, HB⟩ := hrel
    by_cases hlt : k < n
    · have hki : (k : Int) < (n : Int) := by omega
      obtain ⟨x, hx⟩ : ∃ x, l[k]? = some x := ⟨_, List.getElem?_eq_getElem (by have := HN.out; omega)⟩
      obtain ⟨g, o, hA, hg, hc⟩ := HS.out k x hx
      have hc0 : wr.cell? ⟨g, o + k * 2, none⟩ = some (.int .i64 x.1) := (HB.out.cell (p := ⟨g, _, none⟩) hg).trans (hc 0 _ rfl)
      have hc1 : wr.cell? ⟨g, o + k * 2 + 1, none⟩ = some (.string (str8 x.2)) := (HB.out.cell (p := ⟨g, _, none⟩) hg).trans (by have := hc 1 _ rfl; rwa [← Nat.add_assoc] at this)
      rw [hA]
      have HX := Lib.hid hx
      clear hA hc hx
      go_wp2_with fail
      refine (other_any x wr).mono ?_
      rintro e w1 ⟨rfl, hb1⟩
      have HB1 := Lib.hid (HB.out.trans (hb1.mono HB.out.size))
      clear hb1 hc0 hc1
      obtain ⟨b, hb⟩ : ∃ b, hostB x = b := ⟨_, rfl⟩
      rw [hb]
      have Hb := Lib.hid hb
      clear hb
      cases b with
      | true =>
        go_wp2_with fail
        go_roundw
        case rel => exact ⟨k + 1, by omega, by go_num, Lib.hid (fun y hy => by
          rw [List.take_add_one, HX.out] at hy
          rcases List.mem_append.1 hy with hy | hy
          · exact HA.out y hy
          · simp at hy; subst hy; exact Hb.out), HB1⟩
        case measure => simp [intOf]; omega
      | false =>
        go_wp2_with fail
        go_ret
        exact ⟨.inr ⟨k, rfl, by have := HN.out; omega, HA.out, fun y hy => by rw [HX.out] at hy; injection hy with hy; subst hy; exact Hb.out⟩, HB1.out⟩
    · obtain rfl : k = n := by omega
      go_wp2_with fail
      go_ret
      exact ⟨.inl ⟨rfl, fun x hx => HA.out x (by rw [← HN.out, List.take_length]; exact hx)⟩, HB.out⟩

theorem only_setCells (g : Nat) : ∀ (vs : List Value) (o : Nat) (a w : World), a.grownBy w (some g) → a.grownBy (w.setCells g o vs) (some g)
  | [], _, _, _, h => h
  | v :: r, o, a, _, h => only_setCells g r (o + 1) a _ (only_setCell (p := ⟨g, o, none⟩) h (.inl rfl) v)
/-- clear, on names with their types: no cell ahead of them turns, and no other block -/
theorem run_clear {w : World} {g o n c : Nat} {cur : Array Value} {t : TypeId} (hb : Blk w g t cur) (hn : 0 < n) (hf : o + n * 2 ≤ cur.size) (ty : TypeId) :
    ∃ w', (Builtin.clear_ #[55] ty #[.slice (some ⟨g, o, none⟩) n c]).run Try.prog w = .ok (.tuple #[]) w' ∧ w.grownBy w' (some g) ∧ ∀ k, k < o → w'.cell? ⟨g, k, none⟩ = w.cell? ⟨g, k, none⟩ := by
  have hz : ∀ w, (zeroValue 59).run Try.prog w = .ok (.agg #[.int .i64 0, .string .empty]) w := fun w => by kernel_rfl
  have hzs : ((.agg #[.int .i64 0, .string .empty] : Value).cells) = #[.int .i64 0, .string .empty] := rfl
  have hlen : (Builtin.zeroCells #[.int .i64 0, .string .empty] n).toList.length = n * 2 := by simp [Builtin.zeroCells]
  have hone : ∀ v ∈ (Builtin.zeroCells #[.int .i64 0, .string .empty] n).toList, v.oneCell' = true := by
    intro v hv
    simp only [Builtin.zeroCells, Array.toList_map, List.mem_map] at hv
    obtain ⟨i, _, rfl⟩ := hv
    have : i % 2 = 0 ∨ i % 2 = 1 := by omega
    rcases this with h | h
    · simp [h]; rfl
    · simp [h]; rfl
  have hst := run_storeCells_cells (P := Try.prog) g o (Builtin.zeroCells #[.int .i64 0, .string .empty] n).toList 0 w (fun j hj => by
    rw [hb.cell, Array.getElem?_eq_getElem (by rw [hlen] at hj; omega)]; rfl) (fun j hj => hb.frozen _) hone
  simp only [Nat.add_zero] at hst
  obtain ⟨m, rfl⟩ : ∃ m, n = m + 1 := ⟨n - 1, by omega⟩
  refine ⟨w.setCells g o (Builtin.zeroCells #[.int .i64 0, .string .empty] (m + 1)).toList, ?_, only_setCells g _ o w w (only_refl w _), fun k hk => ?_⟩
  · simp [Builtin.clear_, run_underlying Try.underlying55, hz, hzs, hst]
  · exact World.cell?_setCells_out g _ o w ⟨g, k, none⟩ (fun _ _ => .inl hk)

theorem slice_fromT {A : Addr} (hA : A.spot = none) (n c l : Nat) (w : World) (hl : l < n) (hc : n ≤ c) :
    (Instr.sliceAt 55 (.slice (some A) n c) (some (.int .i64 (l : Int))) none none).run Try.prog w = .ok (.slice (some ⟨A.block, A.off + l * 2, none⟩) (n - l) (c - l)) w := by
  obtain ⟨g, o, sp⟩ := A
  subst hA
  have hne : ¬ c = l := by omega
  simp [Instr.sliceAt, Instr.slice, run_underlying Try.underlying55, Instr.sliceBounds, run_sliceBound, (by omega : (l : Int) ≤ (n : Int)), hne, add_flat]
theorem slice_toT {A : Option Addr} (n c h : Nat) (w : World) (hh : h ≤ c) :
    (Instr.sliceAt 55 (.slice A n c) none (some (.int .i64 (h : Int))) none).run Try.prog w = .ok (.slice A h c) w := by
  simp [Instr.sliceAt, Instr.slice, run_underlying Try.underlying55, Instr.sliceBounds, run_sliceBound, (by omega : (h : Int) ≤ (c : Int)), Addr.add]

/-- a name with its type at place m -/
def AtC (cur : Array Value) (m : Nat) (x : Int × List UInt8) : Prop := cur[m * 2]? = some (.int .i64 x.1) ∧ cur[m * 2 + 1]? = some (.string (str8 x.2))
/-- where DeleteFunc is -/
structure DelAt (w : World) (g cap : Nat) (l : List (Int × List UInt8)) (i j : Nat) (cur : Array Value) (wr : World) : Prop where
  blk : Blk wr g 59 cur
  size : cur.size = cap * 2
  cnt : ((l.take j).filter hostB).length = i
  lo : ∀ m x, ((l.take j).filter hostB)[m]? = some x → AtC cur m x
  hi : ∀ m x, j ≤ m → l[m]? = some x → AtC cur m x
  only : w.grownBy wr (some g)
theorem AtC.set {cur : Array Value} {m i : Nat} {x y : Int × List UInt8} (h : AtC cur m x) (hne : m ≠ i) : AtC ((cur.setIfInBounds (i * 2) (.int .i64 y.1)).setIfInBounds (i * 2 + 1) (.string (str8 y.2))) m x := by
  unfold AtC at h ⊢
  simp only [Array.getElem?_setIfInBounds]
  rw [if_neg (by omega), if_neg (by omega), if_neg (by omega), if_neg (by omega)]
  exact h
theorem AtC.put (cur : Array Value) (i : Nat) (y : Int × List UInt8) (hi : i * 2 + 1 < cur.size) : AtC ((cur.setIfInBounds (i * 2) (.int .i64 y.1)).setIfInBounds (i * 2 + 1) (.string (str8 y.2))) i y := by
  unfold AtC
  simp only [Array.getElem?_setIfInBounds, Array.size_setIfInBounds, if_true]
  rw [if_neg (by omega), if_pos (by omega), if_pos hi]
  exact ⟨rfl, rfl⟩
theorem DelAt.keep {w wr : World} {g cap i j : Nat} {l : List (Int × List UInt8)} {cur : Array Value} (h : DelAt w g cap l i j cur wr) (hij : i < j) {x : Int × List UInt8} (hx : l[j]? = some x) (hb : hostB x = true) (hj : j < cap)
    {w' : World} (hw : Blk w' g 59 cur) (ho : w.grownBy w' (some g)) :
    DelAt w g cap l (i + 1) (j + 1) ((cur.setIfInBounds (i * 2) (.int .i64 x.1)).setIfInBounds (i * 2 + 1) (.string (str8 x.2))) ((w'.setCell ⟨g, i * 2, none⟩ (.int .i64 x.1)).setCell ⟨g, i * 2 + 1, none⟩ (.string (str8 x.2))) := by
  have e : (l.take (j + 1)).filter hostB = (l.take j).filter hostB ++ [x] := by
    rw [List.take_add_one, hx]
    simp [List.filter_append, hb]
  refine ⟨(hw.set_ _ _).set_ _ _, by simp [h.size], by rw [e, List.length_append, h.cnt]; rfl, fun m y hm => ?_, fun m y hm hy => ?_, only_setCell (p := ⟨g, i * 2 + 1, none⟩) (only_setCell (p := ⟨g, i * 2, none⟩) ho (.inl rfl) _) (.inl rfl) _⟩
  · rw [e] at hm
    by_cases hmi : m < i
    · rw [List.getElem?_append_left (by rw [h.cnt]; exact hmi)] at hm
      exact (h.lo m y hm).set (by omega)
    · have hl := (List.getElem?_eq_some_iff.1 hm).1
      rw [List.length_append, h.cnt, List.length_singleton] at hl
      obtain rfl : m = i := by omega
      rw [List.getElem?_append_right (by rw [h.cnt]; exact Nat.le_refl _), h.cnt, Nat.sub_self] at hm
      simp at hm
      subst hm
      exact AtC.put cur m x (by rw [h.size]; omega)
  · exact (h.hi m y (by omega) hy).set (by omega)
theorem DelAt.skip {w wr : World} {g cap i j : Nat} {l : List (Int × List UInt8)} {cur : Array Value} (h : DelAt w g cap l i j cur wr) {x : Int × List UInt8} (hx : l[j]? = some x) (hb : hostB x = false)
    {w' : World} (hw : Blk w' g 59 cur) (ho : w.grownBy w' (some g)) : DelAt w g cap l i (j + 1) cur w' := by
  have e : (l.take (j + 1)).filter hostB = (l.take j).filter hostB := by
    rw [List.take_add_one, hx]
    simp [List.filter_append, hb]
  exact ⟨hw, h.size, by rw [e]; exact h.cnt, fun m y hm => h.lo m y (by rw [e] at hm; exact hm), fun m y hm hy => h.hi m y (by omega) hy, ho⟩

/-- what is left: those that are hosts -/
def DelPost (v : Value) (l : List (Int × List UInt8)) (w : World) (e : Ending) (w' : World) : Prop :=
  ∃ A c, e = .returned (.slice A (l.filter hostB).length c) ∧ SrcE w' elT A (l.filter hostB) ∧ w.grownBy w' v.ownBlock

set_option maxRecDepth 100000 in
set_option maxHeartbeats 2000000 in
theorem del_any (v : Value) (B : Nat) (l : List (Int × List UInt8)) (w : World) (ho : OwnE w elT B v l) (hm : l.length ≤ 65535) :
    Calls Try.prog 30 #[v, .func (.func 31) #[] #[]] w (DelPost v l w) := by
  have HO := Lib.hid ho
  rcases ho.row with ⟨rfl, rfl⟩ | ⟨g, cap, cur, rfl, hg, hblk, hcap, hmax, hsz, htk⟩
  · clear ho
    go_enter Try.func30, Try.ntmps30
    go_wp2_with fail
    refine (idx_any none 0 0 [] w (SrcE.nil _ _) rfl (by omega)).mono ?_
    rintro e w1 ⟨⟨rfl, _⟩ | ⟨k, _, hk, _⟩, hb⟩
    · go_wp2_with fail
      go_ret
      exact ⟨none, 0, rfl, SrcE.nil _ _, only_of_below hb _⟩
    · exact absurd hk (Nat.not_lt_zero _)
  · obtain ⟨A', c', hv', _, _, hsrc⟩ := ho.src fineT
    injection hv' with e1 e2 e3
    subst e1 e3
    have HS := Lib.hid hsrc
    have HBk := Lib.hid hblk
    have HSz := Lib.hid hsz
    have HTk := Lib.hid htk
    obtain ⟨n, hn⟩ : ∃ n, l.length = n := ⟨_, rfl⟩
    rw [hn] at hcap hm ⊢
    have HN := Lib.hid hn
    clear ho hsrc hblk hsz htk hn e2
    go_enter Try.func30, Try.ntmps30
    go_wp2_with fail
    refine (idx_any (some ⟨g, 0, none⟩) n cap l w HS.out HN.out hm).mono ?_
    rintro e w1 ⟨⟨rfl, hall⟩ | ⟨k, rfl, hk, hall, hno⟩, hb⟩
    · have HF := Lib.hid (show l.filter hostB = l from List.filter_eq_self.2 hall)
      clear hall
      go_wp2_with fail
      go_ret
      refine ⟨some ⟨g, 0, none⟩, cap, by rw [HF.out, HN.out]; rfl, by rw [HF.out]; exact HS.out.below hb, only_of_below hb _⟩
    · have hsz := HSz.out
      have HAt0 : Hid (DelAt w g cap l k (k + 1) cur w1) := by
        have ek : (l.take k).filter hostB = l.take k := List.filter_eq_self.2 hall
        obtain ⟨x, hx⟩ : ∃ x, l[k]? = some x := ⟨_, List.getElem?_eq_getElem hk⟩
        have e : (l.take (k + 1)).filter hostB = l.take k := by
          rw [List.take_add_one, hx, List.filter_append, ek]
          simp [hno x hx]
        have hat : ∀ m x, l[m]? = some x → AtC cur m x := fun m x hm => by
          have h1 := flat_at fineT l m x hm 0 _ rfl
          have h2 := flat_at fineT l m x hm 1 _ rfl
          rw [← HTk.out, List.getElem?_take] at h1 h2
          split at h1
          · split at h2
            · exact ⟨by simpa [elT] using h1, by simpa [elT] using h2⟩
            · cases h2
          · cases h1
        refine ⟨HBk.out.below hb HBk.out.lt, HSz.out, by rw [e, List.length_take]; omega, fun m y hm => ?_, fun m y _ hy => hat m y hy, only_of_below hb _⟩
        rw [e, List.getElem?_take] at hm
        split at hm
        · exact hat m y hm
        · cases hm
      have hkn : k < n := by have := HN.out; omega
      have hk1 : ((k : Int) == -1) = false := beq_eq_false_iff_ne.2 (by omega)
      clear hall hno hk hb HTk HBk HS
      go_wp2_with fail
      go_loopw [5, 6] (fun a b wr => ∃ (i j : Nat) (cu : Array Value), a = .int .i64 (i : Int) ∧ b = .int .i64 (j : Int) ∧ i < j ∧ j ≤ n ∧ Hid (DelAt w g cap l i j cu wr)) (fun _ b _ => n - (intOf b).toNat)
      case atStart => exact ⟨k, k + 1, cur, rfl, by go_num, by omega, by omega, HAt0⟩
      case round =>
        clear HAt0
        obtain ⟨i, j, cu, rfl, rfl, hij, hjn, HAt⟩ := hrel
        by_cases hlt : j < n
        · have hji : (j : Int) < (n : Int) := by omega
          obtain ⟨x, hx⟩ : ∃ x, l[j]? = some x := ⟨_, List.getElem?_eq_getElem (by have := HN.out; omega)⟩
          obtain ⟨h0, h1⟩ := HAt.out.hi j x (Nat.le_refl _) hx
          have hc0 : wr.cell? ⟨g, j * 2, none⟩ = some (.int .i64 x.1) := by rw [HAt.out.blk.cell]; exact h0
          have hc1 : wr.cell? ⟨g, j * 2 + 1, none⟩ = some (.string (str8 x.2)) := by rw [HAt.out.blk.cell]; exact h1
          have HX := Lib.hid hx
          clear h0 h1 hx
          go_upto_region 8 with fail
          have HZ1 := Lib.hid (Blk.new wr 59 #[Value.int .i64 x.1, .string (str8 x.2)])
          have hz0 : (wr.alloc (.cells #[Value.int .i64 x.1, .string (str8 x.2)] 59)).cell? ⟨wr.heap.size, 0, none⟩ = some (.int .i64 x.1) := by rw [HZ1.out.cell]; rfl
          have hz1 : (wr.alloc (.cells #[Value.int .i64 x.1, .string (str8 x.2)] 59)).cell? ⟨wr.heap.size, 1, none⟩ = some (.string (str8 x.2)) := by rw [HZ1.out.cell]; rfl
          have HBk := Lib.hid (HAt.out.blk.alloc (.cells #[Value.int .i64 x.1, .string (str8 x.2)] 59))
          have HOn := Lib.hid (only_alloc HAt.out.only (.cells #[Value.int .i64 x.1, .string (str8 x.2)] 59))
          have HCu := Lib.hid HAt.out.size
          clear hc0 hc1
          generalize wr.alloc (.cells #[Value.int .i64 x.1, .string (str8 x.2)] 59) = w2 at *
          generalize wr.heap.size = z at *
          go_wp2_with fail
          refine (other_any x w2).mono ?_
          rintro e w3 ⟨rfl, hb3⟩
          have HBk3 := Lib.hid (HBk.out.below hb3 HBk.out.lt)
          have HOn3 := Lib.hid (only_trans HOn.out (only_of_below hb3 (some g)))
          have HZ3 := Lib.hid (HZ1.out.below hb3 HZ1.out.lt)
          clear hb3 hz0 hz1 HBk HOn HZ1
          obtain ⟨b, hb⟩ : ∃ b, hostB x = b := ⟨_, rfl⟩
          rw [hb]
          have Hb := Lib.hid hb
          clear hb
          cases b with
          | true =>
            have hz0 : w3.cell? ⟨z, 0, none⟩ = some (.int .i64 x.1) := by rw [HZ3.out.cell]; rfl
            have hz1 : w3.cell? ⟨z, 1, none⟩ = some (.string (str8 x.2)) := by rw [HZ3.out.cell]; rfl
            have hf0 := HBk3.out.frozen (i * 2)
            have hf1 := HBk3.out.frozen (i * 2 + 1)
            obtain ⟨u0, hu0⟩ : ∃ u, cu[i * 2]? = some u := ⟨_, Array.getElem?_eq_getElem (by have := HCu.out; omega)⟩
            obtain ⟨u1, hu1⟩ : ∃ u, cu[i * 2 + 1]? = some u := ⟨_, Array.getElem?_eq_getElem (by have := HCu.out; omega)⟩
            have hd0 : w3.cell? ⟨g, i * 2, none⟩ = some u0 := by rw [HBk3.out.cell]; exact hu0
            have hd1 : w3.cell? ⟨g, i * 2 + 1, none⟩ = some u1 := by rw [HBk3.out.cell]; exact hu1
            have HK := Lib.hid (HAt.out.keep hij HX.out Hb.out (by omega) HBk3.out HOn3.out)
            clear hu0 hu1 HCu
            go_wp2_with fail
            go_roundw
            case rel => exact ⟨i + 1, j + 1, _, by go_num, by go_num, by omega, by omega, HK⟩
            case measure => simp [intOf]; omega
          | false =>
            have HK := Lib.hid (HAt.out.skip HX.out Hb.out HBk3.out HOn3.out)
            go_wp2_with fail
            go_roundw
            case rel => exact ⟨i, j + 1, cu, rfl, by go_num, by omega, by omega, HK⟩
            case measure => simp [intOf]; omega
        · obtain rfl : j = n := by omega
          have hin : i < j := hij
          have hs1 := slice_fromT (A := ⟨g, 0, none⟩) rfl j cap i wr hin hcap
          simp only [Nat.zero_add] at hs1
          obtain ⟨w4, hcl, hg4, hc4⟩ := run_clear (o := i * 2) (n := j - i) (c := cap - i) HAt.out.blk (by omega) (by have := HAt.out.size; omega) 0
          have hs2 := slice_toT (A := some ⟨g, 0, none⟩) j cap i w4 (by omega)
          have HF := Lib.hid (show (l.filter hostB).length = i by have := HAt.out.cnt; rwa [← HN.out, List.take_length] at this)
          have HC4 := Lib.hid hc4
          have HG4 := Lib.hid hg4
          have hjn' : ¬ (j : Int) < (j : Int) := by omega
          clear hc4 hg4
          go_wp2_with fail
          go_ret
          refine ⟨some ⟨g, 0, none⟩, cap, by rw [HF.out]; rfl, fun m x hx => ⟨g, 0, rfl, Nat.lt_of_lt_of_le HAt.out.blk.lt HG4.out.size, fun q u hu => ?_⟩, only_trans HAt.out.only HG4.out⟩
          have hml := (List.getElem?_eq_some_iff.1 hx).1
          rw [HF.out] at hml
          have hat := HAt.out.lo m x (by rw [← HN.out, List.take_length]; exact hx)
          rw [Nat.zero_add]
          match q, hu with
          | 0, hu => rw [show m * elT.n + 0 = m * 2 from rfl, HC4.out _ (by omega), HAt.out.blk.cell, hat.1]; exact hu
          | 1, hu => rw [show m * elT.n + 1 = m * 2 + 1 from rfl, HC4.out _ (by omega), HAt.out.blk.cell, hat.2]; exact hu
          | q + 2, hu => simp [elT] at hu
end Go.Proofs.Ytajmdchidmamcaa.Ex
