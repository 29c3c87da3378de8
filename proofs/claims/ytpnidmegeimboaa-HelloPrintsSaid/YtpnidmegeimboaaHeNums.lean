/-
  Contract of package hello's numbers over this seat's translation.
-/
import Derived.Test.YtpnidmegeimboaaHeRow
namespace Go.Proofs.Ytpnidmegeimboaa.He
open Go.RowKit Go.Proofs.Ytpnidmegeimboaa.Wd Go.Proofs.Ytpnidmegeimboaa.Be

def numsW (l : List Int) : List UInt8 × Bool := l.foldl numW ([], false)
theorem numW_len (r : List UInt8 × Bool) (n : Int) : (numW r n).1.length ≤ r.1.length + 2 := by
  unfold numW
  split
  · simp [two_len]
  · simp
theorem fold_len (l : List Int) (r : List UInt8 × Bool) : (l.foldl numW r).1.length ≤ r.1.length + 2 * l.length := by
  induction l generalizing r with
  | nil => simp
  | cons n l ih =>
    have h1 := ih (numW r n)
    have h2 := numW_len r n
    rw [List.foldl_cons, List.length_cons]
    omega
theorem numsW_len (l : List Int) : (numsW l).1.length ≤ 2 * l.length := by simpa [numsW] using fold_len l ([], false)
theorem numsW_snoc {l : List Int} {k : Nat} {x : Int} (h : l[k]? = some x) : numsW (l.take (k + 1)) = numW (numsW (l.take k)) x := by
  unfold numsW
  rw [List.take_add_one, h]
  simp
/-- what a row's function answers -/
def RowRet (r : List UInt8 × Bool) (w : World) (e : Ending) (w' : World) : Prop :=
  ∃ p c, e = .returned (.agg #[.slice (ad p) r.1.length c, .bool r.2]) ∧ At w' p c r.1 ∧ (∀ q, p = some q → w.heap.size ≤ q) ∧ Below w.heap.size w w'
theorem infR : (Try.prog.info? 49).map (·.size) = some 2 := by kernel_rfl
theorem undR : Try.prog.underlying 49 = some (.struct (Try.prog.fieldsOf 49)) := by kernel_rfl
/-- one result, in a block -/
theorem ret_cell {fn : Func} {p : Tmp} {ty t : TypeId} {a : Act} {w : World} {g n : Nat} {C : Array Value} {d : TypeDesc} {R : Ending → World → Prop} (hf : fn.results = #[.cell p ty]) (hb : Blk w g t C) (hu : Try.prog.underlying ty = some d)
    (hd : d.isRow = true) (hi : (Try.prog.info? ty).map (·.size) = some n) (hn : C.size = n) (hp : a.tmps.getD p undef = .pointer (some ⟨g, 0, none⟩)) (h : R (.returned (.agg C)) w) (hdf : a.defers = []) : bodyPost Try.prog fn R .ret a w := by
  have hp' : a.tmps[p]?.getD undef = .pointer (some ⟨g, 0, none⟩) := by simpa using hp
  have hl := run_loadVar_row w g t ty C (0, 0) d hb hu (by cases d <;> first | rfl | cases hd) (by rw [hi, hn])
  exact bodyPost_ret (v := .agg C) (by simp [results, hf, hp', asAddr, hl]) hdf h
/-- where such a function is -/
structure RowAt (w : World) (p : Option Nat) (r : List UInt8 × Bool) (wr : World) : Prop where
  rw_ : Rw wr w.heap.size (w.heap.size + 1) p r
  res : Blk wr w.heap.size 49 #[.slice none 0 0, .bool false]
  bel : Below w.heap.size w wr
theorem RowAt.post {w wr w' : World} {p p' : Option Nat} {r r' : List UInt8 × Bool} (h : RowAt w p r wr) (hr : Rw w' w.heap.size (w.heap.size + 1) p' r') (hu : But ((w.heap.size + 1) :: p.toList) wr w') : RowAt w p' r' w' := by
  obtain ⟨c, hb, ha⟩ := h.rw_.blk
  refine ⟨hr, h.res.but hu (fun hm => ?_), h.bel.trans (hu.below (fun i hi => ?_) h.bel.size)⟩
  · rcases List.mem_cons.1 hm with e | e
    · omega
    · exact ha.ne h.res (by decide) (Option.mem_toList.1 e)
  · rcases List.mem_cons.1 hi with e | e
    · omega
    · exact h.rw_.pB i (Option.mem_toList.1 e)
theorem RowAt.more {w wr w' : World} {p : Option Nat} {r : List UInt8 × Bool} (h : RowAt w p r wr) (hb : Below wr.heap.size wr w') : RowAt w p r w' :=
  ⟨h.rw_.same (But.of_below hb _), h.res.below hb h.res.lt, h.bel.trans (hb.mono h.bel.size)⟩

set_option maxRecDepth 100000 in
set_option maxHeartbeats 1000000 in
theorem numbers_any (A : Option Addr) (n c : Nat) (l : List Int) (w : World) (hn : l.length = n) (hm : n ≤ 100000) (hs : SrcI w A l) :
    Calls Try.prog 26 #[.slice A n c] w (RowRet (numsW l) w) := by
  have HS := Lib.hid hs
  have HN := Lib.hid hn
  clear hs hn
  go_enter Try.func26, Try.ntmps26
  go_wp2_with fail
  go_loopw [8] (fun i wr => ∃ k p, k ≤ n ∧ i = .int .i64 (k : Int) ∧ Hid (RowAt w p (numsW (l.take k)) wr)) (fun i _ => n - (intOf i).toNat)
  case atStart =>
    exact ⟨0, none, Nat.zero_le _, rfl, Lib.hid ⟨⟨⟨0, by rw [List.take_zero]; exact blk_at _ _ _ _ _ (by rw [alloc_size]) rfl, by rw [List.take_zero]; exact At.nil _⟩, (fun q h => by cases h), by omega⟩, (Blk.new _ _ _).alloc _, ((Below.refl _ _).alloc (Nat.le_refl _) _).alloc (by simp) _⟩⟩
  case round =>
    obtain ⟨k, p, hk, rfl, HR⟩ := hrel
    by_cases hlt : k < n
    · have hki : (k : Int) < (n : Int) := by omega
      obtain ⟨x, hx⟩ : ∃ x, l[k]? = some x := ⟨_, List.getElem?_eq_getElem (by have := HN.out; omega)⟩
      obtain ⟨g, o, rfl, hgw, h0⟩ := HS.out k x hx
      have hc0 := (HR.out.bel.cell (p := ⟨g, _, none⟩) hgw).trans h0
      have HX := Lib.hid (numsW_snoc hx)
      have hln := numsW_len (l.take k)
      have hlt2 : (l.take k).length ≤ k := List.length_take_le _ _
      clear h0 hx
      go_wp2_with fail
      refine (rwnum_any HR.out.rw_ x (by omega)).mono ?_
      rintro e w2 ⟨rfl, p2, r2, -, u2⟩
      have HR2 := Lib.hid (HR.out.post r2 u2)
      clear r2 u2 hln hlt2 hc0
      go_wp2_with fail
      go_roundw
      case rel => exact ⟨k + 1, p2, by omega, by go_num, Lib.hid (by rw [HX.out]; exact HR2.out)⟩
      case measure => simp [intOf]; omega
    · obtain rfl : k = n := by omega
      obtain ⟨c1, hb, ha⟩ := HR.out.rw_.blk
      have hpB := HR.out.rw_.pB
      rw [List.take_of_length_le (by have := HN.out; omega)] at hb ha
      have hc0 : wr.cell? ⟨w.heap.size + 1, 0, none⟩ = some (.slice (ad p) (numsW l).1.length c1) := by rw [hb.cell]; rfl
      have hc1 : wr.cell? ⟨w.heap.size + 1, 1, none⟩ = some (.bool (numsW l).2) := by rw [hb.cell]; rfl
      have hf0 := HR.out.res.frozen 0
      have hf1 := HR.out.res.frozen 1
      have hd0 : wr.cell? ⟨w.heap.size, 0, none⟩ = some (.slice none 0 0) := by rw [HR.out.res.cell]; rfl
      have hd1 : wr.cell? ⟨w.heap.size, 1, none⟩ = some (.bool false) := by rw [HR.out.res.cell]; rfl
      have HA := Lib.hid ha
      have HP := Lib.hid hpB
      clear hb ha hpB
      go_wp2_with fail
      have hres : Blk ((wr.setCell ⟨w.heap.size, 0, none⟩ (.slice (ad p) (numsW l).1.length c1)).setCell ⟨w.heap.size, 1, none⟩ (.bool (numsW l).2)) w.heap.size 49 #[.slice (ad p) (numsW l).1.length c1, .bool (numsW l).2] := by
        have h := (HR.out.res.set_ 0 (.slice (ad p) (numsW l).1.length c1)).set_ 1 (.bool (numsW l).2)
        rw [set2_0, set2_1] at h
        exact h
      have hbt : But [w.heap.size] wr ((wr.setCell ⟨w.heap.size, 0, none⟩ (.slice (ad p) (numsW l).1.length c1)).setCell ⟨w.heap.size, 1, none⟩ (.bool (numsW l).2)) := ((But.refl _ _).set_ (p := ⟨w.heap.size, 0, none⟩) (.inl (by simp)) _).set_ (p := ⟨w.heap.size, 1, none⟩) (.inl (by simp)) _
      exact ret_cell Try.results26 hres undR rfl infR rfl rfl ⟨p, c1, rfl, HA.out.but hbt (fun b e hm => HA.out.ne HR.out.res (by decide) (by rw [e, List.mem_singleton.1 hm])), HP.out, (HR.out.bel.setCell (p := ⟨w.heap.size, 0, none⟩) (Nat.le_refl _) _).setCell (p := ⟨w.heap.size, 1, none⟩) (Nat.le_refl _) _⟩ rfl
end Go.Proofs.Ytpnidmegeimboaa.He
