/-
  Contract of hagioscoperef03.Parse.
-/
import Derived.Test.YtlpondbcnfaggaaGreatDoorQ18
import Derived.Test.YtlpondbcnfaggaaGreatDoorQ19
import Derived.Test.YtlpondbcnfaggaaGreatDoorQ07
namespace Go.Proofs.YtlpondbcnfaggaaGreatDoor.Ad
open Go.RowKit Go.Proofs.YtlpondbcnfaggaaGreatDoor.Wd Go.Proofs.YtlpondbcnfaggaaGreatDoor.Asc

theorem own_cells {w : World} {B : Nat} {v : Value} {xs : List UInt8} (h : Own w B v xs) (hn : xs ≠ []) : ∃ g cap cur, v = .slice (some ⟨g, 0, none⟩) xs.length cap ∧ B ≤ g ∧ xs.length ≤ cap ∧ Blk w g 5 cur ∧ ∀ (k : Nat) (c : UInt8), xs[k]? = some c → cur[k]? = some (Value.int .u8 (c.toNat : Int)) := by
  obtain ⟨hl, h0 | ⟨g, cap, cur, hv, hg, hh, hc, _, _, ht⟩⟩ := h
  · exact absurd (List.eq_nil_of_length_eq_zero h0.2) hn
  · refine ⟨g, cap, cur, hv, hg, hc, hh, fun k c hk => ?_⟩
    rw [← Array.getElem?_toList]
    have h2 := cellsOf_get hk
    rw [← ht, Nat.mul_one, List.getElem?_take] at h2
    split at h2
    · exact h2
    · cases h2
theorem cell_far_row {w : World} {b g k : Nat} {C : Array Value} (h : b ≠ g) : (w.setRow b C).cell? ⟨g, k, none⟩ = w.cell? ⟨g, k, none⟩ := World.cell?_of_block (setRow_far (fun e => h e.symm) C)
theorem list4 {α : Type} {l : List α} (h : l.length = 4) : ∃ a b c d : α, l = [a, b, c, d] := by
  match l, h with
  | [a, b, c, d], _ => exact ⟨a, b, c, d, rfl⟩
theorem grpsR_len (last : Bool) : ∀ (L : List (List UInt8)) (b : List UInt8), grpsR last L = some b → b.length ≤ 4 * L.length
  | [], b, h => by simp [grpsR] at h; subst h; simp
  | p :: r, b, h => by
    unfold grpsR at h
    split at h
    · simp only [Option.map_eq_some_iff] at h
      obtain ⟨x, hx, rfl⟩ := h
      have := grpsR_len last r x hx
      simp
      omega
    · split at h
      · cases h
      · rename_i d hd
        split at h
        · injection h with h
          subst h
          rw [dotR_eq] at hd
          have := dotS_len 4 _ _ hd
          simp
          omega
        · cases h
theorem groupsR_len {l b : List UInt8} {last : Bool} (h : groupsR l last = some b) : b.length ≤ 4 * (l.length + 1) := by
  unfold groupsR at h
  split at h
  · injection h with h; subst h; simp
  · have h1 := grpsR_len last _ b h
    have h2 := splitS_len 58 l
    omega
def RParPost (s : ByteArray) (w : World) (e : Ending) (w' : World) : Prop :=
  e = .returned (.tuple #[.agg (cA ((parseS (bs s)).getD (List.replicate 16 0))), .bool (parseS (bs s)).isSome]) ∧ Below w.heap.size w w'
def RParAt (s : ByteArray) (w : World) (x i : Value) (w' : World) : Prop :=
  ∃ k : Nat, k ≤ s.size ∧ i = .int .i64 k ∧ ((x = .int .i64 (-1) ∧ ∀ j, j < k → occ (bs s) j = false) ∨ ∃ j : Nat, j < k ∧ x = .int .i64 j ∧ occ (bs s) j = true ∧ ∀ i, i < k → i ≠ j → occ (bs s) i = false) ∧
    Blk w' w.heap.size 48 (cA (List.replicate 16 0)) ∧ Blk w' (w.heap.size + 1) 48 (cA (List.replicate 16 0)) ∧ Below w.heap.size w w'
theorem occ_of (s : ByteArray) (k : Nat) (h : k + 1 < s.size) : occ (bs s) k = ((((s[k]'(by omega)).toNat : Int) == 58) && (((s[k + 1]'h).toNat : Int) == 58)) := by
  unfold occ
  have e1 : (bs s)[k]? = some (s[k]'(by omega)) := List.getElem?_eq_getElem (by rw [bs_length]; omega)
  have e2 : (bs s)[k + 1]? = some (s[k + 1]'h) := List.getElem?_eq_getElem (by rw [bs_length]; omega)
  rw [e1, e2]
  have e : ∀ c : UInt8, ((some c == some (58 : UInt8)) : Bool) = (((c.toNat : Int) == 58)) := fun c => by
    rw [Bool.eq_iff_iff, beq_iff_eq, beq_iff_eq]
    constructor
    · intro h; injection h with h; rw [h]; rfl
    · intro h; congr 1; exact UInt8.toNat.inj (by show c.toNat = 58; omega)
  rw [e, e]
theorem occ_far (s : ByteArray) (k : Nat) (h : ¬ k + 1 < s.size) : occ (bs s) k = false := by
  unfold occ
  rw [show (bs s)[k + 1]? = none from List.getElem?_eq_none (by rw [bs_length]; omega)]
  simp
set_option linter.unusedSimpArgs false in
set_option maxRecDepth 100000 in
set_option maxHeartbeats 8000000 in
theorem rparse_any (s : ByteArray) (w : World) (hs : s.size ≤ 2147483640) : Calls Tryz.prog 73 #[.string s] w (RParPost s w) := by
  go_enter Tryz.func73, Tryz.ntmps73
  go_wp2_with fail
  have b0 : Blk ((w.alloc (.cells (cA (List.replicate 16 0)) 48)).alloc (.cells (cA (List.replicate 16 0)) 48)) w.heap.size 48 (cA (List.replicate 16 0)) := (Blk.new _ _ _).alloc _
  have b1 : Blk ((w.alloc (.cells (cA (List.replicate 16 0)) 48)).alloc (.cells (cA (List.replicate 16 0)) 48)) (w.heap.size + 1) 48 (cA (List.replicate 16 0)) := blk_at _ _ _ _ _ (by rw [alloc_size]) rfl
  have hbel : Below w.heap.size w ((w.alloc (.cells (cA (List.replicate 16 0)) 48)).alloc (.cells (cA (List.replicate 16 0)) 48)) := ((Below.refl _ _).alloc (Nat.le_refl _) _).alloc (by simp) _
  rw [show #[Value.int .u8 0, .int .u8 0, .int .u8 0, .int .u8 0, .int .u8 0, .int .u8 0, .int .u8 0, .int .u8 0, .int .u8 0, .int .u8 0, .int .u8 0, .int .u8 0, .int .u8 0, .int .u8 0, .int .u8 0, .int .u8 0] = cA (List.replicate 16 0) from rfl]
  generalize ((w.alloc (.cells (cA (List.replicate 16 0)) 48)).alloc (.cells (cA (List.replicate 16 0)) 48)) = w1 at *
  refine (rdotted_any s _ (by omega)).mono ?_
  rintro e w2 ⟨v, rfl, hown, hb2⟩
  have hl1 := b1.lt
  have HB0 := Lib.hid (b0.below hb2 b0.lt)
  have HB1 := Lib.hid (b1.below hb2 b1.lt)
  have HL := Lib.hid (hbel.trans (hb2.mono hbel.size))
  clear b0 b1 hbel hb2
  cases hd : dotR (bs s) with
  | some d =>
    have HZ := Lib.hid (parse_dot hd)
    have hdl : d.length = 4 := by
      have h := hd
      rw [dotR_eq] at h
      exact dotS_len 4 _ _ h
    rw [hd] at hown
    obtain ⟨d0, d1, d2, d3, rfl⟩ := list4 hdl
    obtain ⟨g, cap, cur, rfl, hg, hcap, hblk, hcur⟩ := own_cells hown (by simp)
    simp only [Option.getD_some] at hg hcap hblk hcur ⊢
    have hcell : w2.cell? ⟨g, 0, none⟩ = some (.int .u8 (d0.toNat : Int)) ∧ w2.cell? ⟨g, 1, none⟩ = some (.int .u8 (d1.toNat : Int)) ∧ w2.cell? ⟨g, 2, none⟩ = some (.int .u8 (d2.toNat : Int)) ∧ w2.cell? ⟨g, 3, none⟩ = some (.int .u8 (d3.toNat : Int)) := ⟨by rw [hblk.cell]; exact hcur 0 d0 rfl, by rw [hblk.cell]; exact hcur 1 d1 rfl, by rw [hblk.cell]; exact hcur 2 d2 rfl, by rw [hblk.cell]; exact hcur 3 d3 rfl⟩
    have HC := Lib.hid hcell
    have HBK := Lib.hid hblk
    have hcap4 : 4 ≤ cap := hcap
    clear hown hcur hblk hd hdl hcell hcap
    simp only [List.length_cons, List.length_nil]
    go_wp2_with fail
    refine wp_region_held_drew (S := fun w' => w'.cell? ⟨g, 0, none⟩ = some (.int .u8 (d0.toNat : Int)) ∧ w'.cell? ⟨g, 1, none⟩ = some (.int .u8 (d1.toNat : Int)) ∧ w'.cell? ⟨g, 2, none⟩ = some (.int .u8 (d2.toNat : Int)) ∧ w'.cell? ⟨g, 3, none⟩ = some (.int .u8 (d3.toNat : Int))) (by kernel_rfl) HC.out (fun h0 => ?_)
    refine hd_take 0 (some 21) (.slice (some ⟨g, 0, none⟩) 4 cap) rfl rfl (by kernel_rfl) (by kernel_rfl) (by kernel_rfl) (fun _ _ _ h => h) (Or.inl ⟨by rfl, fun w hw => by go_simp⟩) h0 ?_
    simp only [Act.put, List.setIfInBounds_toArray, List.set_cons_zero, List.set_cons_succ]
    refine hd_take 1 (some 22) (.pointer (some ⟨g, 0, none⟩)) rfl rfl (by kernel_rfl) (by kernel_rfl) (by kernel_rfl) (fun _ _ _ h => h) (Or.inl ⟨by rfl, fun w hw => by go_simp⟩) h0 ?_
    simp only [Act.put, List.setIfInBounds_toArray, List.set_cons_zero, List.set_cons_succ]
    refine hd_take 2 (some 23) (.int .u8 (d0.toNat : Int)) rfl rfl (by kernel_rfl) (by kernel_rfl) (by kernel_rfl) (fun _ _ _ h => h) (Or.inl ⟨by rfl, fun w hw => by obtain ⟨hc0, hc1, hc2, hc3⟩ := hw; go_simp⟩) h0 ?_
    simp only [Act.put, List.setIfInBounds_toArray, List.set_cons_zero, List.set_cons_succ]
    refine hd_take 3 (some 24) (.slice (some ⟨g, 0, none⟩) 4 cap) rfl rfl (by kernel_rfl) (by kernel_rfl) (by kernel_rfl) (fun _ _ _ h => h) (Or.inl ⟨by rfl, fun w hw => by go_simp⟩) h0 ?_
    simp only [Act.put, List.setIfInBounds_toArray, List.set_cons_zero, List.set_cons_succ]
    refine hd_take 4 (some 25) (.pointer (some ⟨g, 1, none⟩)) rfl rfl (by kernel_rfl) (by kernel_rfl) (by kernel_rfl) (fun _ _ _ h => h) (Or.inl ⟨by rfl, fun w hw => by go_simp⟩) h0 ?_
    simp only [Act.put, List.setIfInBounds_toArray, List.set_cons_zero, List.set_cons_succ]
    refine hd_take 5 (some 26) (.int .u8 (d1.toNat : Int)) rfl rfl (by kernel_rfl) (by kernel_rfl) (by kernel_rfl) (fun _ _ _ h => h) (Or.inl ⟨by rfl, fun w hw => by obtain ⟨hc0, hc1, hc2, hc3⟩ := hw; go_simp⟩) h0 ?_
    simp only [Act.put, List.setIfInBounds_toArray, List.set_cons_zero, List.set_cons_succ]
    refine hd_take 6 (some 27) (.slice (some ⟨g, 0, none⟩) 4 cap) rfl rfl (by kernel_rfl) (by kernel_rfl) (by kernel_rfl) (fun _ _ _ h => h) (Or.inl ⟨by rfl, fun w hw => by go_simp⟩) h0 ?_
    simp only [Act.put, List.setIfInBounds_toArray, List.set_cons_zero, List.set_cons_succ]
    refine hd_take 7 (some 28) (.pointer (some ⟨g, 2, none⟩)) rfl rfl (by kernel_rfl) (by kernel_rfl) (by kernel_rfl) (fun _ _ _ h => h) (Or.inl ⟨by rfl, fun w hw => by go_simp⟩) h0 ?_
    simp only [Act.put, List.setIfInBounds_toArray, List.set_cons_zero, List.set_cons_succ]
    refine hd_take 8 (some 29) (.int .u8 (d2.toNat : Int)) rfl rfl (by kernel_rfl) (by kernel_rfl) (by kernel_rfl) (fun _ _ _ h => h) (Or.inl ⟨by rfl, fun w hw => by obtain ⟨hc0, hc1, hc2, hc3⟩ := hw; go_simp⟩) h0 ?_
    simp only [Act.put, List.setIfInBounds_toArray, List.set_cons_zero, List.set_cons_succ]
    refine hd_take 9 (some 30) (.slice (some ⟨g, 0, none⟩) 4 cap) rfl rfl (by kernel_rfl) (by kernel_rfl) (by kernel_rfl) (fun _ _ _ h => h) (Or.inl ⟨by rfl, fun w hw => by go_simp⟩) h0 ?_
    simp only [Act.put, List.setIfInBounds_toArray, List.set_cons_zero, List.set_cons_succ]
    refine hd_take 10 (some 31) (.pointer (some ⟨g, 3, none⟩)) rfl rfl (by kernel_rfl) (by kernel_rfl) (by kernel_rfl) (fun _ _ _ h => h) (Or.inl ⟨by rfl, fun w hw => by go_simp⟩) h0 ?_
    simp only [Act.put, List.setIfInBounds_toArray, List.set_cons_zero, List.set_cons_succ]
    refine hd_take 11 (some 32) (.int .u8 (d3.toNat : Int)) rfl rfl (by kernel_rfl) (by kernel_rfl) (by kernel_rfl) (fun _ _ _ h => h) (Or.inl ⟨by rfl, fun w hw => by obtain ⟨hc0, hc1, hc2, hc3⟩ := hw; go_simp⟩) h0 ?_
    simp only [Act.put, List.setIfInBounds_toArray, List.set_cons_zero, List.set_cons_succ]
    refine hd_take 12 (some 33) (.agg (cA [d0, d1, d2, d3])) rfl rfl (by kernel_rfl) (by kernel_rfl) (by kernel_rfl) (fun _ _ _ h => h) (Or.inl ⟨by rfl, fun w hw => by go_simp; rfl⟩) h0 ?_
    simp only [Act.put, List.setIfInBounds_toArray, List.set_cons_zero, List.set_cons_succ]
    refine wpAnyH_ready (rs := [13]) (by kernel_rfl) (by simp) (AllReadyH.cons rfl (fun K hK => ?_) AllReadyH.nil)
    go_simp
    go_wp2_with (go_at_call 116; refine (rof4_any [d0, d1, d2, d3] rfl _).mono ?_; rintro e w3 ⟨rfl, hb3⟩; have HB3 := Lib.hid ((Below.refl _ _).drew.trans hb3))
    have hgl : g < w2.heap.size := HBK.out.lt
    have hc3 : w3.cell? ⟨g, 0, none⟩ = some (.int .u8 (d0.toNat : Int)) ∧ w3.cell? ⟨g, 1, none⟩ = some (.int .u8 (d1.toNat : Int)) ∧ w3.cell? ⟨g, 2, none⟩ = some (.int .u8 (d2.toNat : Int)) ∧ w3.cell? ⟨g, 3, none⟩ = some (.int .u8 (d3.toNat : Int)) := ⟨(HB3.out.cell (p := ⟨g, 0, none⟩) hgl).trans HC.out.1, (HB3.out.cell (p := ⟨g, 1, none⟩) hgl).trans HC.out.2.1, (HB3.out.cell (p := ⟨g, 2, none⟩) hgl).trans HC.out.2.2.1, (HB3.out.cell (p := ⟨g, 3, none⟩) hgl).trans HC.out.2.2.2⟩
    have HC3 := Lib.hid hc3
    have R3 := Lib.hid (HB0.out.below HB3.out HB0.out.lt)
    have L3 := Lib.hid (HL.out.trans (HB3.out.mono HL.out.size))
    have hgne : w.heap.size ≠ g := by omega
    clear hc3
    refine hK.out _ _ HC3.out (fun h2 => ?_)
    clear hK K
    refine wpAnyH_ready (rs := [14]) (by kernel_rfl) (by simp) (AllReadyH.cons rfl (fun K hK => ?_) AllReadyH.nil)
    refine wp_store_row 48 _ _ rfl w.heap.size (cA (of4S [d0, d1, d2, d3])) rfl rfl 48 _ R3.out (by rw [info16]; rfl) rfl (cA_one _) ?_
    have hc4 : (w3.setRow w.heap.size (cA (of4S [d0, d1, d2, d3]))).cell? ⟨g, 0, none⟩ = some (.int .u8 (d0.toNat : Int)) ∧ (w3.setRow w.heap.size (cA (of4S [d0, d1, d2, d3]))).cell? ⟨g, 1, none⟩ = some (.int .u8 (d1.toNat : Int)) ∧ (w3.setRow w.heap.size (cA (of4S [d0, d1, d2, d3]))).cell? ⟨g, 2, none⟩ = some (.int .u8 (d2.toNat : Int)) ∧ (w3.setRow w.heap.size (cA (of4S [d0, d1, d2, d3]))).cell? ⟨g, 3, none⟩ = some (.int .u8 (d3.toNat : Int)) := ⟨by rw [cell_far_row hgne]; exact HC3.out.1, by rw [cell_far_row hgne]; exact HC3.out.2.1, by rw [cell_far_row hgne]; exact HC3.out.2.2.1, by rw [cell_far_row hgne]; exact HC3.out.2.2.2⟩
    refine hK.out _ _ hc4 (fun h3 => ?_)
    clear hK K
    refine hd_take 15 (some 3) (.bool true) rfl rfl (by kernel_rfl) (by kernel_rfl) (by kernel_rfl) (fun _ _ _ h => h) (Or.inl ⟨by rfl, fun w hw => by go_simp⟩) h3 ?_
    simp only [Act.put, List.setIfInBounds_toArray, List.set_cons_zero, List.set_cons_succ]
    refine wpAnyH_done (by kernel_rfl) ?_ _
    go_wp2_with fail
    exact ret_two Tryz.results73 (setRow_blk R3.out) und16 rfl info16 rfl rfl rfl ⟨by rw [HZ.out]; rfl, setRow_below L3.out R3.out (Nat.le_refl _) _⟩ rfl
  | none =>
    have HD := Lib.hid hd
    clear hd hown
    go_wp2_with fail
    go_loopw [7, 8] (fun x i w' => RParAt s w x i w') (fun _ i _ => s.size - (intOf i).toNat)
    case atStart => exact ⟨0, Nat.zero_le _, rfl, .inl ⟨rfl, fun j hj => absurd hj (by omega)⟩, HB0.out, HB1.out, HL.out⟩
    case round =>
      obtain ⟨k, hk, rfl, hat, b0, b1, hbel⟩ := hrel
      have hl1 := b1.lt
      have B0 := Lib.hid b0
      have B1 := Lib.hid b1
      have HL1 := Lib.hid hbel
      have hsz := hbel.size
      clear b0 b1 hbel
      by_cases hlt : k + 1 < s.size
      · have hlk : (k : Int) < (s.size : Int) := by omega
        have ho := occ_of s k hlt
        rcases hat with ⟨rfl, hno⟩ | ⟨j, hjk, rfl, hj, hno⟩
        · have HNO := Lib.hid hno
          clear hno
          cases c1 : (((s[k]'(by omega)).toNat : Int) == 58)
          · have HO := Lib.hid (show occ (bs s) k = false by rw [ho, c1]; rfl)
            clear ho
            go_wp2
            go_roundw
            case rel => exact ⟨k + 1, by omega, by go_num, .inl ⟨rfl, fun j hj => (by
              rcases Nat.lt_or_ge j k with h | h
              · exact HNO.out j h
              · rw [show j = k by omega]; exact HO.out)⟩, B0.out, B1.out, HL1.out⟩
            case measure => simp [intOf]; omega
          · cases c2 : (((s[k + 1]'hlt).toNat : Int) == 58)
            · have HO := Lib.hid (show occ (bs s) k = false by rw [ho, c1, c2]; rfl)
              clear ho
              go_wp2
              go_roundw
              case rel => exact ⟨k + 1, by omega, by go_num, .inl ⟨rfl, fun j hj => (by
              rcases Nat.lt_or_ge j k with h | h
              · exact HNO.out j h
              · rw [show j = k by omega]; exact HO.out)⟩, B0.out, B1.out, HL1.out⟩
              case measure => simp [intOf]; omega
            · have HO := Lib.hid (show occ (bs s) k = true by rw [ho, c1, c2]; rfl)
              clear ho
              go_wp2
              go_roundw
              case rel => exact ⟨k + 1, by omega, by go_num, .inr ⟨k, by omega, rfl, HO.out, fun i hi hne => HNO.out i (by omega)⟩, B0.out, B1.out, HL1.out⟩
              case measure => simp [intOf]; omega
        · have HNO := Lib.hid hno
          have HJ := Lib.hid hj
          clear hno hj
          cases c1 : (((s[k]'(by omega)).toNat : Int) == 58)
          · have HO := Lib.hid (show occ (bs s) k = false by rw [ho, c1]; rfl)
            clear ho
            go_wp2
            go_roundw
            case rel => exact ⟨k + 1, by omega, by go_num, .inr ⟨j, by omega, rfl, HJ.out, fun i hi hne => (by
              rcases Nat.lt_or_ge i k with h | h
              · exact HNO.out i h hne
              · rw [show i = k by omega]; exact HO.out)⟩, B0.out, B1.out, HL1.out⟩
            case measure => simp [intOf]; omega
          · cases c2 : (((s[k + 1]'hlt).toNat : Int) == 58)
            · have HO := Lib.hid (show occ (bs s) k = false by rw [ho, c1, c2]; rfl)
              clear ho
              go_wp2
              go_roundw
              case rel => exact ⟨k + 1, by omega, by go_num, .inr ⟨j, by omega, rfl, HJ.out, fun i hi hne => (by
              rcases Nat.lt_or_ge i k with h | h
              · exact HNO.out i h hne
              · rw [show i = k by omega]; exact HO.out)⟩, B0.out, B1.out, HL1.out⟩
              case measure => simp [intOf]; omega
            · have HO := Lib.hid (show occ (bs s) k = true by rw [ho, c1, c2]; rfl)
              have HZ := Lib.hid (parse_twice HJ.out HO.out hjk (fun i hi => HNO.out i (by omega) (by omega)))
              clear ho
              go_wp2_with (first
                | (refine go_ld 48 B1.out und16 rfl info16 rfl rfl rfl rfl ?_)
                | (refine go_st 48 B0.out info16 rfl rfl (cA_one _) rfl rfl rfl rfl ?_))
              exact ret_two Tryz.results73 (setRow_blk B0.out) und16 rfl info16 rfl rfl rfl ⟨by rw [HZ.out]; rfl, setRow_below HL1.out B0.out (Nat.le_refl _) _⟩ rfl
      · rcases hat with ⟨rfl, hno⟩ | ⟨j, hjk, rfl, hj, hno⟩
        · have HNO := Lib.hid (show ∀ j, occ (bs s) j = false from fun j => by
            rcases Nat.lt_or_ge j k with h | h
            · exact hno j h
            · exact occ_far s j (by omega))
          have HP := Lib.hid (parse_plain HD.out HNO.out)
          clear hno
          go_wp2_with fail
          refine (rgroups_any s true _ (by omega)).mono ?_
          rintro e w3 ⟨v, rfl, hown, hb3⟩
          have R0 := Lib.hid (B0.out.below hb3 B0.out.lt)
          have R1 := Lib.hid (B1.out.below hb3 B1.out.lt)
          have L3 := Lib.hid (HL1.out.trans (hb3.mono hsz))
          clear hb3
          cases hg : groupsR (bs s) true with
          | none =>
            have HZ := Lib.hid (show parseS (bs s) = none by rw [HP.out, hg]; rfl)
            clear hown hg
            go_wp2_with (first
              | (refine go_ld 48 R1.out und16 rfl info16 rfl rfl rfl rfl ?_)
              | (refine go_st 48 R0.out info16 rfl rfl (cA_one _) rfl rfl rfl rfl ?_))
            exact ret_two Tryz.results73 (setRow_blk R0.out) und16 rfl info16 rfl rfl rfl ⟨by rw [HZ.out]; rfl, setRow_below L3.out R0.out (Nat.le_refl _) _⟩ rfl
          | some x =>
            rw [hg] at hown
            obtain ⟨A2, c2, rfl, hc2, hsrc⟩ := hown.src
            simp only [Option.getD_some] at hc2 hsrc ⊢
            have HS2 := Lib.hid hsrc
            by_cases h16 : x.length = 16
            · have HZ := Lib.hid (show parseS (bs s) = some x by rw [HP.out, hg]; simp [h16])
              have HS16 := Lib.hid (show splB (List.replicate 16 0) 0 x = x by simp [splB, h16])
              have HX16 := Lib.hid h16
              rw [h16] at HS2
              simp only [h16]
              clear hown hsrc hg hc2 h16
              go_wp2_with (first
                | (refine wpList_cp (w.heap.size + 1) 0 (by exact R1.out) HS2.out rfl rfl rfl rfl (by omega) (fun _ => rfl) (by simp) ?_; intro w4 hg4 hb4; rw [HS16.out] at hg4)
                | (refine go_ld 48 hg4.out und16 rfl info16 (by rw [cA_size, HX16.out]) rfl rfl rfl ?_)
                | (refine go_st 48 (R0.out.but hb4.out (by simp)) info16 rfl (by rw [cA_size, HX16.out]) (cA_one _) rfl rfl rfl rfl ?_))
              exact ret_two Tryz.results73 (setRow_blk (R0.out.but hb4.out (by simp))) und16 rfl info16 (by rw [cA_size, HX16.out]) rfl rfl ⟨by rw [HZ.out]; rfl, setRow_below (L3.out.trans (but_below hb4.out L3.out.size (fun i hi => by simp at hi; omega))) (R0.out.but hb4.out (by simp)) (Nat.le_refl _) _⟩ rfl
            · have HZ := Lib.hid (show parseS (bs s) = none by rw [HP.out, hg]; simp [h16])
              have h16i : ((x.length : Int) != 16) = true := by simp; omega
              clear hown hsrc hg
              go_wp2_with (first
                | (refine go_ld 48 R1.out und16 rfl info16 rfl rfl rfl rfl ?_)
                | (refine go_st 48 R0.out info16 rfl rfl (cA_one _) rfl rfl rfl rfl ?_))
              exact ret_two Tryz.results73 (setRow_blk R0.out) und16 rfl info16 rfl rfl rfl ⟨by rw [HZ.out]; rfl, setRow_below L3.out R0.out (Nat.le_refl _) _⟩ rfl
        · have HJ := Lib.hid hj
          have HNO := Lib.hid (show ∀ i, i ≠ j → occ (bs s) i = false from fun i hne => by
            rcases Nat.lt_or_ge i k with h | h
            · exact hno i h hne
            · exact occ_far s i (by omega))
          have hj2 : j + 1 < s.size := by
            have h := (List.getElem?_eq_some_iff.1 (occ_is hj).2).1
            rwa [bs_length] at h
          have HP := Lib.hid (parse_short HJ.out HNO.out)
          have E1 := Lib.hid (show bs (s.extract 0 j) = (bs s).take j by rw [bs_extract]; simp)
          have E2 := Lib.hid (show bs (s.extract (j + 2) s.size) = (bs s).drop (j + 2) by rw [bs_extract, List.take_of_length_le (Nat.le_of_eq (by rw [List.length_drop, bs_length]))])
          have HSZ1 := Lib.hid (show (s.extract 0 j).size ≤ 4294967290 by rw [← bs_length, E1.out, List.length_take, bs_length]; omega)
          have HSZ2 := Lib.hid (show (s.extract (j + 2) s.size).size ≤ 4294967290 by rw [← bs_length, E2.out, List.length_drop, bs_length]; omega)
          clear hno hj
          go_wp2_with fail
          refine (rgroups_any (s.extract 0 j) false _ HSZ1.out).mono ?_
          rintro e w3 ⟨v, rfl, hown, hb3⟩
          rw [E1.out] at hown ⊢
          have R0 := Lib.hid (B0.out.below hb3 B0.out.lt)
          have R1 := Lib.hid (B1.out.below hb3 B1.out.lt)
          have L3 := Lib.hid (HL1.out.trans (hb3.mono hsz))
          have hs3 := hb3.size
          have HO1 := Lib.hid hown
          clear hb3 hown
          go_wp2_with fail
          refine (rgroups_any (s.extract (j + 2) s.size) true _ HSZ2.out).mono ?_
          rintro e w4 ⟨v2, rfl, hown2, hb4⟩
          rw [E2.out] at hown2 ⊢
          have S0 := Lib.hid (R0.out.below hb4 R0.out.lt)
          have S1 := Lib.hid (R1.out.below hb4 R1.out.lt)
          have L4 := Lib.hid (L3.out.trans (hb4.mono L3.out.size))
          have HO2 := Lib.hid (HO1.out.below hb4 (Nat.le_refl _))
          clear hb4 HO1
          cases hg : groupsR ((bs s).take j) false with
          | none =>
            have HZ := Lib.hid (show parseS (bs s) = none by rw [HP.out, hg])
            clear hown2 hg HO2
            go_wp2_with (first
              | (refine go_ld 48 S1.out und16 rfl info16 rfl rfl rfl rfl ?_)
              | (refine go_st 48 S0.out info16 rfl rfl (cA_one _) rfl rfl rfl rfl ?_))
            exact ret_two Tryz.results73 (setRow_blk S0.out) und16 rfl info16 rfl rfl rfl ⟨by rw [HZ.out]; rfl, setRow_below L4.out S0.out (Nat.le_refl _) _⟩ rfl
          | some x =>
            cases hg2 : groupsR ((bs s).drop (j + 2)) true with
            | none =>
              have HZ := Lib.hid (show parseS (bs s) = none by rw [HP.out, hg, hg2])
              clear hown2 hg hg2 HO2
              go_wp2_with (first
                | (refine go_ld 48 S1.out und16 rfl info16 rfl rfl rfl rfl ?_)
                | (refine go_st 48 S0.out info16 rfl rfl (cA_one _) rfl rfl rfl rfl ?_))
              exact ret_two Tryz.results73 (setRow_blk S0.out) und16 rfl info16 rfl rfl rfl ⟨by rw [HZ.out]; rfl, setRow_below L4.out S0.out (Nat.le_refl _) _⟩ rfl
            | some y =>
              have ho1 := HO2.out
              rw [hg] at ho1
              rw [hg2] at hown2
              obtain ⟨A1, c1, rfl, hc1, hsrc1, ha1⟩ := ho1.cut_
              obtain ⟨A2, c2, rfl, hc2, hsrc2, ha2⟩ := hown2.cut_
              simp only [Option.getD_some] at hc1 hc2 hsrc1 hsrc2 ⊢
              have HS1 := Lib.hid hsrc1
              have HS2 := Lib.hid hsrc2
              have HA2 := Lib.hid ha2
              by_cases hbig : 14 < x.length + y.length
              · have HZ := Lib.hid (show parseS (bs s) = none by rw [HP.out, hg, hg2]; dsimp only; rw [if_pos hbig])
                have hbi : (14 : Int) < (x.length : Int) + (y.length : Int) := by omega
                have hxm := groupsR_len hg
                have hym := groupsR_len hg2
                rw [List.length_take, bs_length] at hxm
                rw [List.length_drop, bs_length] at hym
                have hxm2 : x.length ≤ 8589934592 := by omega
                have hym2 : y.length ≤ 8589934592 := by omega
                clear hown2 hg hg2 HO2 ho1 hsrc1 hsrc2 ha1 ha2
                go_wp2_with (first
                  | (refine go_ld 48 S1.out und16 rfl info16 rfl rfl rfl rfl ?_)
                  | (refine go_st 48 S0.out info16 rfl rfl (cA_one _) rfl rfl rfl rfl ?_))
                exact ret_two Tryz.results73 (setRow_blk S0.out) und16 rfl info16 rfl rfl rfl ⟨by rw [HZ.out]; rfl, setRow_below L4.out S0.out (Nat.le_refl _) _⟩ rfl
              · have HZ := Lib.hid (show parseS (bs s) = some (shV x y) by rw [HP.out, hg, hg2]; dsimp only; rw [if_neg hbig]; rfl)
                have hbi : ¬ (14 : Int) < (x.length : Int) + (y.length : Int) := by omega
                have HX1 := Lib.hid (show splB (List.replicate 16 0) 0 x = (sideC x).a by
                  show [] ++ (x ++ (List.replicate 16 0).drop (0 + x.length)) = x ++ List.replicate (16 - x.length) 0
                  rw [Nat.zero_add, List.drop_replicate]
                  rfl)
                have HX2 := Lib.hid (side_spl x y (by omega))
                have HX3 := Lib.hid (sideC_len (x := x) (by omega))
                have HX4 := Lib.hid (shV_len x y (by omega))
                have HH1 : w.heap.size + 1 < w3.heap.size := R1.out.lt
                clear hown2 hg hg2 HO2 ho1 hsrc1 hsrc2 ha1 ha2
                by_cases hy0 : y.length = 0
                · have hwr : IntKind.i64.wrap 16 = 16 := by rw [IntKind.wrap_i64]; rfl
                  have hy00 : y = [] := List.eq_nil_of_length_eq_zero hy0
                  subst hy00
                  simp only [List.length_nil] at HS2 ⊢
                  go_wp2_with (first
                    | (refine wpList_cp (w.heap.size + 1) 0 (by exact S1.out) HS1.out rfl rfl rfl rfl (by omega) (fun _ => rfl) (by simp; omega) ?_; intro w5 hg5 hb5; rw [HX1.out] at hg5; have HS3 := Lib.hid (HS2.out.but hb5.out (fun h => absurd h (by omega))))
                    | (show wpList _ _ _ [_] _ _; refine wpList_cp (w.heap.size + 1) (16 - ([] : List UInt8).length) (cur := (sideC x).a) (ys := []) (by exact hg5.out) HS3.out rfl rfl rfl rfl (by omega) (fun h => absurd h (by omega)) (by rw [HX3.out]; simp) ?_; intro w6 hg6 hb6; rw [HX2.out] at hg6)
                    | (refine go_ld 48 hg6.out und16 rfl info16 (by rw [cA_size, HX4.out]) rfl rfl rfl ?_)
                    | (refine go_st 48 ((S0.out.but hb5.out (by simp)).but hb6.out (by simp)) info16 rfl (by rw [cA_size, HX4.out]) (cA_one _) rfl rfl rfl rfl ?_))
                  exact ret_two Tryz.results73 (setRow_blk ((S0.out.but hb5.out (by simp)).but hb6.out (by simp))) und16 rfl info16 (by rw [cA_size, HX4.out]) rfl rfl ⟨by rw [HZ.out]; rfl, setRow_below ((L4.out.trans (but_below hb5.out L4.out.size (fun i hi => by simp at hi; omega))).trans (but_below hb6.out (Nat.le_trans L4.out.size hb5.out.size) (fun i hi => by simp at hi; omega))) ((S0.out.but hb5.out (by simp)).but hb6.out (by simp)) (Nat.le_refl _) _⟩ rfl
                · have hwr : IntKind.i64.wrap (16 - (y.length : Int)) = ((16 - y.length : Nat) : Int) := by rw [IntKind.wrap_i64]; omega
                  have hq1 : ((16 - y.length : Nat) : Int) ≤ 16 := by omega
                  have hq2 : ¬ 16 = 16 - y.length := by omega
                  have hq3 : (y.length : Int) ≤ 16 := by omega
                  go_wp2_with (first
                    | (refine wpList_cp (w.heap.size + 1) 0 (by exact S1.out) HS1.out rfl rfl rfl rfl (by omega) (fun _ => rfl) (by simp; omega) ?_; intro w5 hg5 hb5; rw [HX1.out] at hg5; have HS3 := Lib.hid (HS2.out.but hb5.out (fun _ z hz => by have := HA2.out z hz; simp; omega)))
                    | (show wpList _ _ _ [_] _ _; refine wpList_cp (w.heap.size + 1) (16 - y.length) (cur := (sideC x).a) (ys := y) (by exact hg5.out) HS3.out rfl rfl rfl rfl (by omega) (fun _ => rfl) (by rw [HX3.out]; omega) ?_; intro w6 hg6 hb6; rw [HX2.out] at hg6)
                    | (refine go_ld 48 hg6.out und16 rfl info16 (by rw [cA_size, HX4.out]) rfl rfl rfl ?_)
                    | (refine go_st 48 ((S0.out.but hb5.out (by simp)).but hb6.out (by simp)) info16 rfl (by rw [cA_size, HX4.out]) (cA_one _) rfl rfl rfl rfl ?_))
                  exact ret_two Tryz.results73 (setRow_blk ((S0.out.but hb5.out (by simp)).but hb6.out (by simp))) und16 rfl info16 (by rw [cA_size, HX4.out]) rfl rfl ⟨by rw [HZ.out]; rfl, setRow_below ((L4.out.trans (but_below hb5.out L4.out.size (fun i hi => by simp at hi; omega))).trans (but_below hb6.out (Nat.le_trans L4.out.size hb5.out.size) (fun i hi => by simp at hi; omega))) ((S0.out.but hb5.out (by simp)).but hb6.out (by simp)) (Nat.le_refl _) _⟩ rfl
end Go.Proofs.YtlpondbcnfaggaaGreatDoor.Ad
