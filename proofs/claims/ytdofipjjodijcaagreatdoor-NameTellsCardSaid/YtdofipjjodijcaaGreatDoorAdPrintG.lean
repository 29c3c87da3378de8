/-
  Contract of package addr's Print at any address, over this seat's translation.
-/
import Derived.Test.YtdofipjjodijcaaGreatDoorAdRound
import Derived.Test.YtdofipjjodijcaaGreatDoorAdRowI
import Derived.Test.YtdofipjjodijcaaGreatDoorAdPrint4
import Derived.Lib.AppendStr
namespace Go.Proofs.YtdofipjjodijcaaGreatDoor.Ad
open Go.RowKit Go.Proofs.YtdofipjjodijcaaGreatDoor.Wd Go.Proofs.YtdofipjjodijcaaGreatDoor.Asc

theorem wpList_apps {ops : Array Oper} {rest : List Oper} {o : Oper} {a : Act} {w : World} {Q : Exit → Act → World → Prop} (hgd : o.guard = none) (sl x : Operand)
    (ho : o.op = .call { callee := .builtin .append, args := #[sl, x], argTypes := #[30, 9] }) (B : Nat) (v : Value) (xs : List UInt8) (hs : a.eval sl = v) (hown : Own w B v xs) (ys : List UInt8) (hx : a.eval x = .string ⟨ys.toArray⟩)
    (hlen : xs.length + ys.length ≤ 1000) (hB : B ≤ w.heap.size)
    (h : ∀ v' w', Hid (Own w' B v' (xs ++ ys)) → Below B w w' → wpList Tryz.prog ops Q rest (a.put o.dst v') w') : wpList Tryz.prog ops Q (o :: rest) a w := by
  obtain ⟨i0, hi, hz0, hz1, hz2⟩ := info_parts inf81
  have hsz : (⟨ys.toArray⟩ : ByteArray).size = ys.length := rfl
  refine Lib.wpList_append_own_string (P := Tryz.prog) w hgd sl x _ _ ho B 5 i0 Tryz.underlying30 Tryz.underlying9 hi hz0 hz1 hz2 v xs.length (cellsOf xs) hs hown ⟨ys.toArray⟩ hx (by unfold maxLen; rw [hsz]; omega) (by rw [hsz]; omega) hB ?_
  intro v' w' h2 h3 _
  refine h v' w' ?_ ((Below.refl _ _).grown h3 hB (fun k hk => ?_))
  · unfold Own
    rw [List.length_append, cellsOf_append]
    exact h2
  · obtain ⟨_, ⟨rfl, _⟩ | ⟨g, cap, cur, rfl, hg, _⟩⟩ := hown
    · simp [Value.ownBlock] at hk
    · simp [Value.ownBlock] at hk; omega

theorem gapS_inv (row : List Nat) : (gapS row).1 ≤ (gapS row).2 ∧ (gapS row).2 ≤ 8 := by
  have h := (gapN_inv row 8).2.2
  unfold gapS
  dsimp only
  rcases h with h | h <;> omega

set_option maxRecDepth 100000 in
set_option maxHeartbeats 1000000 in
theorem print_gen {B : Nat} (a : List UInt8) (ha : a.length = 16) (hf : fourS a = false) (w : World) (hE : Env B w) :
    Calls Tryz.prog 11 #[.agg (cA a)] w fun e w' => e = .returned (.string (str (textG a))) ∧ Below w.heap.size w w' := by
  have HE := Lib.hid hE
  have HF := Lib.hid hf
  obtain ⟨-, hp8, hp64⟩ := pairs_bytes 8 a (by omega)
  have HT := Lib.hid (show textG a = if (gapS (pairs a)).1 = (gapS (pairs a)).2 then joinS (pairs a) else joinS ((pairs a).take (gapS (pairs a)).1) ++ [58, 58] ++ joinS ((pairs a).drop (gapS (pairs a)).2) from rfl)
  have hgi := gapS_inv (pairs a)
  have HGr := Lib.hid (fun w => grpsOf_any a ha hp8 w)
  clear hE hf
  go_enter Tryz.func11, Tryz.ntmps11
  go_upto_region 1 with fail
  have b0 := Blk.new w 32 (cA a)
  have hbel : Below w.heap.size w (w.alloc (.cells (cA a) 32)) := (Below.refl _ _).alloc (Nat.le_refl _) _
  generalize w.alloc (.cells (cA a) 32) = w1 at *
  go_wp2_with (refine go_ld 32 b0 und16 rfl info16 (by rw [cA_size, ha]) rfl rfl rfl ?_)
  refine (four_any a ha _).mono ?_
  rintro e w2 ⟨rfl, hb2⟩
  rw [HF.out]
  have b2 := b0.below hb2 b0.lt
  have hbel2 := hbel.trans (hb2.mono hbel.size)
  clear b0 hbel hb2
  go_wp2_with (refine go_ld 32 b2 und16 rfl info16 (by rw [cA_size, ha]) rfl rfl rfl ?_)
  refine (HGr.out _).mono ?_
  rintro e w3 ⟨rfl, hb3⟩
  have hbel3 := Lib.hid (hbel2.trans (hb3.mono hbel2.size))
  clear b2 hbel2 hb3 HGr
  generalize pairs a = row at *
  go_upto_region 5 with (refine go_st 47 (Blk.new _ _ _) inf8i rfl (by rw [cI_size, hp8]) (cI_one _) rfl rfl rfl rfl ?_)
  have hn := new_below w3 47 #[Value.int .i64 0, Value.int .i64 0, Value.int .i64 0, Value.int .i64 0, Value.int .i64 0, Value.int .i64 0, Value.int .i64 0, Value.int .i64 0] (cI row)
  have b4 := new_blk w3 47 #[Value.int .i64 0, Value.int .i64 0, Value.int .i64 0, Value.int .i64 0, Value.int .i64 0, Value.int .i64 0, Value.int .i64 0, Value.int .i64 0] (cI row)
  generalize (w3.alloc (.cells #[Value.int .i64 0, Value.int .i64 0, Value.int .i64 0, Value.int .i64 0, Value.int .i64 0, Value.int .i64 0, Value.int .i64 0, Value.int .i64 0] 47)).setRow w3.heap.size (cI row) = w4 at *
  have hbel4 := Lib.hid (hbel3.out.trans (hn.mono hbel3.out.size))
  generalize hg4 : w3.heap.size = g4 at *
  have HG4 := Lib.hid (show w.heap.size ≤ g4 from by rw [← hg4]; exact hbel3.out.size)
  clear hn hg4
  go_wp2_with (refine go_ld 47 b4 und8i rfl inf8i (by rw [cI_size, hp8]) rfl rfl rfl ?_)
  refine (gap_any row hp8 _).mono ?_
  rintro e w5 ⟨rfl, hb5⟩
  have HB5 := Lib.hid (b4.below hb5 b4.lt)
  have hbel5 := Lib.hid (hbel4.out.trans (hb5.mono hbel4.out.size))
  clear b4 hb5 hbel4 hbel3
  generalize (gapS row).1 = F at *
  generalize (gapS row).2 = T at *
  have HE5 := Lib.hid (HE.out.on hbel5.out)
  have hgl := HB5.out.lt
  have HNil := Lib.hid (show Own w5 w5.heap.size (.slice none 0 0) [] from ⟨rfl, .inl ⟨rfl, rfl⟩⟩)
  have hcs : ∀ k x : Nat, row[k]? = some x → w5.cell? ⟨g4, k, none⟩ = some (.int .i64 (x : Int)) := fun k x hx => by rw [cell_i HB5.out k, hx]; rfl
  have HCs := Lib.hid hcs
  have hlz := Nat.lt_of_lt_of_le HE5.out.lowz HE5.out.le
  have HTz := Lib.hid HE5.out.tz
  clear hcs
  by_cases hFT : F = T
  · have hft : ((F : Int) == (T : Int)) = true := by rw [beq_iff_eq]; omega
    rw [if_pos hFT] at HT
    have hsI : SrcI w5 (some ⟨g4, 0, none⟩) 8 row := ⟨hp8, hp64, fun _ => ⟨g4, 0, rfl, hgl, fun k x hx => by rw [Nat.zero_add]; exact HCs.out k x hx⟩⟩
    have HR := Lib.hid (rowI_any (B := w5.heap.size) (.slice none 0 0) [] (some ⟨g4, 0, none⟩) 8 8 row w5 HNil.out (by simp) hsI (by omega) (Nat.le_refl _) (fun _ x hx => by injection hx with hx; subst hx; exact hgl) HTz.out hlz)
    clear hsI
    go_wp2_with fail
    refine HR.out.mono ?_
    rintro e w6 ⟨v6, rfl, hO6, hb6⟩
    rw [List.nil_append] at hO6
    obtain ⟨A6, c6, rfl, -, hs6⟩ := hO6.src
    have hconv := conv_src (P := Tryz.prog) (c := c6) hs6 Tryz.underlying30 Tryz.underlying5 Tryz.underlying9
    have HL := Lib.hid (hbel5.out.trans (hb6.mono hbel5.out.size))
    clear hO6 hs6 hb6
    generalize joinS row = J at *
    go_wp2_with fail
    go_ret
    rw [HT.out]
    exact ⟨rfl, HL.out⟩
  · have hft : ((F : Int) == (T : Int)) = false := by rw [beq_eq_false_iff_ne]; omega
    rw [if_neg hFT] at HT
    have hsl1 := fun w' => arr_to und8i siz1i g4 F w' (by omega)
    have hsl2 := fun w' => arr_from und8i siz1i g4 T w' (by omega)
    obtain ⟨ad2, had2⟩ : ∃ x : Addr, (if 8 = T then (⟨g4, 0, none⟩ : Addr) else ⟨g4, T, none⟩) = x := ⟨_, rfl⟩
    simp only [had2] at hsl2
    have HAd2 := Lib.hid had2
    clear had2
    have hsI : SrcI w5 (some ⟨g4, 0, none⟩) F (row.take F) := ⟨by rw [List.length_take]; omega, fun x hx => hp64 x (List.mem_of_mem_take hx), fun _ => ⟨g4, 0, rfl, hgl, fun k x hx => by
      rw [Nat.zero_add]
      rw [List.getElem?_take] at hx
      split at hx
      · exact HCs.out k x hx
      · cases hx⟩⟩
    have HR := Lib.hid (rowI_any (B := w5.heap.size) (.slice none 0 0) [] (some ⟨g4, 0, none⟩) F 8 (row.take F) w5 HNil.out (by simp) hsI (by omega) (Nat.le_refl _) (fun _ x hx => by injection hx with hx; subst hx; exact hgl) HTz.out hlz)
    clear hsI
    go_wp2_with fail
    refine HR.out.mono ?_
    rintro e w6 ⟨v6, rfl, hO6, hb6⟩
    rw [List.nil_append] at hO6
    have HO6 := Lib.hid hO6
    have HL6 := Lib.hid hb6
    have hj6 : (joinS (row.take F)).length ≤ 40 := by
      have h1 := joinS_le (row.take F)
      rw [List.length_take] at h1
      omega
    clear hb6 HR hsl1
    generalize joinS (row.take F) = J at *
    have hj62 : J.length + ([58, 58] : List UInt8).length ≤ 1000 := by simp; omega
    obtain ⟨A6, c6, rfl, -, -⟩ := hO6.src
    clear hO6
    go_wp2_with (at_builtin; refine wpList_apps rfl (.tmp 31) (.const (.string ⟨#[58, 58]⟩)) rfl w5.heap.size (.slice A6 J.length c6) J rfl HO6.out [58, 58] rfl hj62 HL6.out.size ?_; intro v7 w7 HO7 hb7; refine Hid.out ?_)
    have HL7 := Lib.hid (HL6.out.trans hb7)
    clear hb7
    refine Lib.hid ?_
    have hsI : SrcI w7 (some ad2) (8 - T) (row.drop T) := ⟨by rw [List.length_drop]; omega, fun x hx => hp64 x (List.mem_of_mem_drop hx), fun h0 => ⟨g4, T, by rw [← HAd2.out, if_neg (by omega)], Nat.lt_of_lt_of_le hgl HL7.out.size, fun k x hx => by
      rw [List.getElem?_drop] at hx
      exact (HL7.out.cell (p := ⟨g4, T + k, none⟩) hgl).trans (HCs.out _ x hx)⟩⟩
    have HR := Lib.hid (rowI_any (B := w5.heap.size) v7 (J ++ [58, 58]) (some ad2) (8 - T) (8 - T) (row.drop T) w7 HO7.out (by simp; omega) hsI (by omega) HL7.out.size
      (fun h0 x hx => by rw [← HAd2.out, if_neg (by omega)] at hx; injection hx with hx; subst hx; exact hgl) ((HL7.out.cell (p := ⟨5, 15, none⟩) hlz).trans HTz.out) hlz)
    clear hsI
    go_wp2_with fail
    refine HR.out.mono ?_
    rintro e w8 ⟨v8, rfl, hO8, hb8⟩
    obtain ⟨A8, c8, rfl, -, hs8⟩ := hO8.src
    have hconv := conv_src (P := Tryz.prog) (c := c8) hs8 Tryz.underlying30 Tryz.underlying5 Tryz.underlying9
    have HL := Lib.hid (hbel5.out.trans ((HL7.out.trans hb8).mono hbel5.out.size))
    clear hO8 hs8 hb8
    generalize J ++ [58, 58] ++ joinS (row.drop T) = K at *
    go_wp2_with fail
    go_ret
    rw [HT.out]
    exact ⟨rfl, HL.out⟩

theorem print_any {B : Nat} (a : List UInt8) (ha : a.length = 16) (w : World) (hE : Env B w) :
    Calls Tryz.prog 11 #[.agg (cA a)] w fun e w' => e = .returned (.string (str (ctext a))) ∧ Below w.heap.size w w' := by
  unfold ctext
  cases hf : fourS a with
  | true => rw [if_pos rfl]; exact print_four a ha hf w hE
  | false => rw [if_neg (by simp)]; exact print_gen a ha hf w hE
end Go.Proofs.YtdofipjjodijcaaGreatDoor.Ad
