/-
  Contract over this seat's translation: the document's own Same of two verdicts in which nothing is seen says that they are the same, if they are equal.
-/
import Derived.Test.YtgbhnjkigjecmaaGreatDoorQ12
import Derived.Deep.QuietTactic
namespace Go.Proofs.YtgbhnjkigjecmaaGreatDoor.Hp
open Go.RowKit Go.Proofs.YtgbhnjkigjecmaaGreatDoor.Wd

/-- a struct loaded out of a block's midst, guarded or not -/
theorem go_ldM {ops : Array Oper} {rest : List Oper} {o : Oper} {a : Act} {w : World} {Q : Exit → Act → World → Prop} {x : Operand} {d : TypeDesc} (ty : TypeId) (cs : List Value) (b i : Nat) (hc : w.rangeAt b i cs) (hu : Tryz.prog.underlying ty = some d)
    (hd : d.isRow = true) (hi : (Tryz.prog.info? ty).map (·.size) = some cs.length) (hw : Region.wanted o (yielded ops a.tmps) = true) (ho : o.op = .load ty x)
    (hx : a.eval x = .pointer (some ⟨b, i, none⟩)) (h : wpList Tryz.prog ops Q rest (a.put o.dst (.agg cs.toArray)) w) : wpList Tryz.prog ops Q (o :: rest) a w := by
  show if Region.wanted o (yielded ops a.tmps) = true then _ else _
  rw [if_pos hw]
  exact .inl (wp_load_mid ty x ho b i hx cs d hc hu hd hi h)
theorem rows0_any (w : World) : Calls Tryz.prog 37 #[.slice none 0 0, .slice none 0 0] w fun e w' => e = .returned (.bool true) ∧ w = w' := by
  go_enter Tryz.func37, Tryz.ntmps37
  go_wp2_with fail
  go_loopw [5] (fun i wr => i = .int .i64 0 ∧ w = wr) (fun _ _ => 0)
  case atStart => exact ⟨rfl, rfl⟩
  case round =>
    obtain ⟨rfl, rfl⟩ := hrel
    go_wp2_with fail
    go_ret
    exact ⟨rfl, rfl⟩
theorem ints0_any (w : World) : Calls Tryz.prog 38 #[.slice none 0 0, .slice none 0 0] w fun e w' => e = .returned (.bool true) ∧ w = w' := by
  go_enter Tryz.func38, Tryz.ntmps38
  go_wp2_with fail
  go_loopw [5] (fun i wr => i = .int .i64 0 ∧ w = wr) (fun _ _ => 0)
  case atStart => exact ⟨rfl, rfl⟩
  case round =>
    obtain ⟨rfl, rfl⟩ := hrel
    go_wp2_with fail
    go_ret
    exact ⟨rfl, rfl⟩
set_option maxRecDepth 100000 in
set_option maxHeartbeats 2000000 in
theorem sames_any (w : World) : Calls Tryz.prog 19 #[.agg zS, .agg zS] w fun e w' => e = .returned (.bool true) ∧ Below w.heap.size w w' := by
  have HB := Lib.hid (((Below.refl w.heap.size w).alloc (Nat.le_refl _) (.cells zS 29)).alloc (by simp) (.cells zS 29))
  have b0 := (Blk.new w 29 zS).alloc (.cells zS 29)
  have b1 := St.blk_at (w.alloc (.cells zS 29)) 29 zS zS (w.heap.size + 1) (by rw [St.alloc_size]) rfl
  unfold zS at HB b0 b1 ⊢
  go_enter Tryz.func19, Tryz.ntmps19
  go_upto_region 1 with fail
  generalize (w.alloc (.cells #[Value.bool false, .string ⟨#[]⟩, .slice none 0 0, .slice none 0 0, .bool false] 29)).alloc (.cells #[Value.bool false, .string ⟨#[]⟩, .slice none 0 0, .slice none 0 0, .bool false] 29) = w0 at *
  have k0 := b0.cell 0
  have k1 := b0.cell 1
  have k2 := b0.cell 2
  have k3 := b0.cell 3
  have k4 := b0.cell 4
  have m0 := b1.cell 0
  have m1 := b1.cell 1
  have m2 := b1.cell 2
  have m3 := b1.cell 3
  have m4 := b1.cell 4
  clear b0 b1
  go_wp2_with fail
  refine (rows0_any w0).mono ?_
  rintro e w1 ⟨rfl, rfl⟩
  go_wp2_with fail
  refine (ints0_any w0).mono ?_
  rintro e w2 ⟨rfl, rfl⟩
  go_wp2_with fail
  go_ret
  exact ⟨rfl, HB.out⟩

set_option linter.unusedSimpArgs false in
set_option maxRecDepth 100000 in
set_option maxHeartbeats 8000000 in
theorem samev_any (z o u r : Int) (H : ByteArray) (p : Int) (w : World) :
    Calls Tryz.prog 10 #[.agg (vH z o u r H p), .agg (vH z o u r H p)] w fun e w' => e = .returned (.bool true) ∧ Below w.heap.size w w' := by
  have HB0 : Hid (Below w.heap.size w ((w.alloc (.cells (vH z o u r H p) 31)).alloc (.cells (vH z o u r H p) 31))) := Lib.hid (((Below.refl _ _).alloc (Nat.le_refl _) _).alloc (by rw [St.alloc_size]; omega) _)
  have HK1 : Hid (Blk ((w.alloc (.cells (vH z o u r H p) 31)).alloc (.cells (vH z o u r H p) 31)) w.heap.size 31 (vH z o u r H p)) := Lib.hid ((Blk.new w _ _).alloc _)
  have HK2 : Hid (Blk ((w.alloc (.cells (vH z o u r H p) 31)).alloc (.cells (vH z o u r H p) 31)) (w.heap.size + 1) 31 (vH z o u r H p)) := Lib.hid (St.blk_at _ _ _ _ _ (by rw [St.alloc_size]) rfl)
  go_enter Tryz.func10, Tryz.ntmps10
  go_upto_region 1 with fail
  generalize (w.alloc (.cells (vH z o u r H p) 31)).alloc (.cells (vH z o u r H p) 31) = w1 at *
  obtain ⟨G, hG⟩ : ∃ G, w.heap.size = G := ⟨_, rfl⟩
  rw [hG] at HK1 HK2
  rw [hG]
  clear hG
  have c10 : w1.cell? ⟨G, 0, none⟩ = some (.int .i64 z) := by rw [HK1.out.cell]; rfl
  have c20 : w1.cell? ⟨G + 1, 0, none⟩ = some (.int .i64 z) := by rw [HK2.out.cell]; rfl
  have c11 : w1.cell? ⟨G, 1, none⟩ = some (.int .i64 o) := by rw [HK1.out.cell]; rfl
  have c21 : w1.cell? ⟨G + 1, 1, none⟩ = some (.int .i64 o) := by rw [HK2.out.cell]; rfl
  have c12 : w1.cell? ⟨G, 2, none⟩ = some (.int .i64 u) := by rw [HK1.out.cell]; rfl
  have c22 : w1.cell? ⟨G + 1, 2, none⟩ = some (.int .i64 u) := by rw [HK2.out.cell]; rfl
  have c13 : w1.cell? ⟨G, 3, none⟩ = some (.int .i64 r) := by rw [HK1.out.cell]; rfl
  have c23 : w1.cell? ⟨G + 1, 3, none⟩ = some (.int .i64 r) := by rw [HK2.out.cell]; rfl
  have c14 : w1.cell? ⟨G, 4, none⟩ = some (.string H) := by rw [HK1.out.cell]; rfl
  have c24 : w1.cell? ⟨G + 1, 4, none⟩ = some (.string H) := by rw [HK2.out.cell]; rfl
  have c15 : w1.cell? ⟨G, 5, none⟩ = some (.int .i64 p) := by rw [HK1.out.cell]; rfl
  have c25 : w1.cell? ⟨G + 1, 5, none⟩ = some (.int .i64 p) := by rw [HK2.out.cell]; rfl
  have fH : (H.toList == H.toList) = true := beq_self_eq_true _
  have R1 := Lib.hid (range_h HK1.out)
  have R2 := Lib.hid (range_h HK2.out)
  have IS : Hid ((Tryz.prog.info? 29).map (·.size) = some zS.toList.length) := Lib.hid infS
  go_wp2_with (first | (refine go_ldM (x := .tmp 46) 29 zS.toList G 6 R1.out undS rfl IS.out (by rfl) rfl rfl ?_) | (refine go_ldM (x := .tmp 48) 29 zS.toList (G + 1) 6 R2.out undS rfl IS.out (by rfl) rfl rfl ?_))
  refine (sames_any w1).mono ?_
  rintro e w2 ⟨rfl, hb⟩
  have HB2 := Lib.hid (HB0.out.trans (hb.mono HB0.out.size))
  clear hb
  go_wp2_with fail
  go_ret
  exact ⟨rfl, HB2.out⟩
end Go.Proofs.YtgbhnjkigjecmaaGreatDoor.Hp

/-
  []byte(s) over this seat's translation, and the heads of many fields in plain words.
-/
namespace Go.Proofs.YtgbhnjkigjecmaaGreatDoor.Hp
open Go.RowKit Go.Proofs.YtgbhnjkigjecmaaGreatDoor.Wd Go.Proofs.YtgbhnjkigjecmaaGreatDoor.Asc Go.Proofs.YtgbhnjkigjecmaaGreatDoor.Tx

/-- []byte(s): new memory that reads as s -/
theorem bytes_str (x : List UInt8) (w : World) : ∃ c w', (convert 9 22 (.string (str x))).run Tryz.prog w = .ok (.slice (some ⟨w.heap.size, 0, none⟩) x.length c) w' ∧ Src w' (some ⟨w.heap.size, 0, none⟩) x.length x ∧ Below w.heap.size w w' ∧ x.length ≤ c := by
  have hz : (str x).size = x.length := str_size x
  refine ⟨_, _, by rw [← hz]; exact run_bytes_of_string (P := Tryz.prog) w 9 22 5 (str x) Tryz.underlying9 Tryz.underlying22 Tryz.underlying5, ⟨rfl, fun _ => ⟨_, rfl, ?_, fun j c hj => ?_⟩⟩, ?_, ?_⟩
  · show w.heap.size < (w.heap.push _).size
    simp
  · have hj' : (str x).data[j]? = some c := by rw [← Array.getElem?_toList]; simpa [str] using hj
    have hlt := (Array.getElem?_eq_some_iff.1 hj').1
    rw [add_none, Nat.zero_add]
    refine (World.cell?_alloc_mark w.drew _ _ _ j).trans ?_
    rw [bytesRow_at (str x) _ j hlt, (Array.getElem?_eq_some_iff.1 hj').2]
    rfl
  · exact (Below.refl _ _).drew.alloc (Nat.le_refl _) _
  · rw [← hz]; exact grownCap_ge _ _ _ _

/-! a head of many fields -/
def getL : List UInt8 := [71, 69, 84, 32, 47, 32, 72, 84, 84, 80, 47, 49, 46, 49]
def hstL : List UInt8 := [72, 111, 115, 116, 58, 32, 97]
def bcL : List UInt8 := [98, 58, 32, 99]
def manyL (k : Nat) : List (List UInt8) := hstL :: List.replicate k bcL
def rowM (k : Nat) : List UInt8 := getL ++ ([13, 10] ++ linesS (manyL k))
theorem manyL_next (k : Nat) : manyL (k + 1) = manyL k ++ [bcL] := by simp [manyL, List.replicate_succ']
theorem rowM_next (k : Nat) : rowM (k + 1) = rowM k ++ [98, 58, 32, 99, 13, 10] := by
  rw [rowM, manyL_next, lines_snoc, rowM]
  simp [bcL]
theorem rowM_len : ∀ k, (rowM k).length = 25 + 6 * k
  | 0 => by decide
  | k + 1 => by rw [rowM_next, List.length_append, rowM_len k]; simp; omega
theorem plain_get : Plain getL := by unfold Plain; decide
theorem ok_host : OkL hstL := ⟨by unfold Plain; decide, by decide, by decide +kernel⟩
theorem ok_bc : OkL bcL := ⟨by unfold Plain; decide, by decide, by decide +kernel⟩
theorem ok_many (k : Nat) : ∀ l ∈ manyL k, OkL l := fun l h => by
  rcases List.mem_cons.1 h with rfl | h
  · exact ok_host
  · rw [(List.mem_replicate.1 h).2]; exact ok_bc
theorem first_get : Rl.parseS getL = (⟨[71, 69, 84], [47], 1⟩, 0) := by decide +kernel
theorem judge_many (k : Nat) : judgeS ⟨[71, 69, 84], [47], 1⟩ ((manyL k).map fldOf) = ([97], 0, 0) := by
  have h1 : (fldOf bcL).name ≠ Au.hostN := by decide +kernel
  have e : Fd.findS Au.hostN ((manyL k).map fldOf) = Fd.findS Au.hostN [fldOf hstL] := by
    have e2 : (List.replicate k (fldOf bcL)).filter (fun f => decide (f.name = Au.hostN)) = [] := by
      rw [List.filter_replicate, if_neg (by simpa using h1)]
    unfold Fd.findS Fd.ofName manyL
    simp only [List.map_cons, List.map_replicate, List.filter_cons, e2, List.filter_nil]
  have e3 : Au.ofS ⟨[71, 69, 84], [47], 1⟩ ((manyL k).map fldOf) = Au.ofS ⟨[71, 69, 84], [47], 1⟩ [fldOf hstL] := by
    unfold Au.ofS
    rw [e]
  unfold judgeS
  rw [e3]
  decide +kernel
/-- no more than there may be -/
theorem few_known {k : Nat} (hk : k ≤ 99) : (allH (rowM k ++ [13, 10])).z = 1 ∧ (allH (rowM k ++ [13, 10])).h = [97] ∧ (allH (rowM k ++ [13, 10])).u = 27 + 6 * k := by
  have e : rowM k ++ [13, 10] = headS getL (manyL k) := by simp [rowM, headS]
  obtain ⟨h1, h2⟩ := head_known plain_get first_get (ok_many k) (by simp [manyL]; omega)
  rw [e]
  unfold doneS at h2
  rw [judge_many k] at h2
  refine ⟨h2.1, h2.2.2.1, ?_⟩
  rw [h1, ← e, List.length_append, rowM_len]
  simp; omega
/-- more than there may be -/
theorem more_known {k : Nat} (hk : 100 ≤ k) : (allH (rowM k ++ [13, 10])).z = 2 ∧ (allH (rowM k ++ [13, 10])).r = 2 ∧ (allH (rowM k ++ [13, 10])).u = 625 := by
  have e1 : manyL k = manyL 99 ++ (bcL :: List.replicate (k - 100) bcL) := by
    have : List.replicate k bcL = List.replicate 99 bcL ++ (bcL :: List.replicate (k - 100) bcL) := by
      rw [← List.replicate_succ, ← List.replicate_append_replicate.symm]
      congr 1; omega
    simp [manyL, this]
  have e : rowM k ++ [13, 10] = getL ++ ([13, 10] ++ (linesS (manyL 99) ++ (bcL ++ ([13, 10] ++ (linesS (List.replicate (k - 100) bcL) ++ [13, 10]))))) := by
    rw [rowM, e1, lines_app, linesS]
    simp
  obtain ⟨h1, h2, h3⟩ := many_known (rest := linesS (List.replicate (k - 100) bcL) ++ [13, 10]) plain_get first_get (ok_many 99) (by simp [manyL]) ok_bc
  rw [e]
  refine ⟨h1, h2, h3.trans ?_⟩
  have := rowM_len 99
  rw [rowM, List.length_append, List.length_append] at this
  have g : getL.length = 14 := rfl
  have b : bcL.length = 4 := rfl
  have c : ([13, 10] : List UInt8).length = 2 := rfl
  omega
/-! a head, line by line -/
structure LnAt (s : List UInt8) (l : List Fd.Fld) (k : Nat) (T : ByteArray) : Prop where
  ex : ∃ ls : List (List UInt8), ls.length = k ∧ (∀ x ∈ ls, OkL x) ∧ ls.map fldOf = l.take k ∧ T = str (s ++ ([13, 10] ++ linesS ls))
  le : T.size ≤ 2002 + 502 * k
  sm : ∀ f ∈ l.take k, f.text.length ≤ 500
theorem LnAt.start (s : List UInt8) (l : List Fd.Fld) (h : s.length ≤ 2000) : LnAt s l 0 (str s ++ ⟨#[13, 10]⟩) where
  ex := ⟨[], rfl, (fun x hx => by cases hx), rfl, bs_inj (by rw [Asc.bs_add, bs_str, bs_str]; simp [linesS, bs])⟩
  le := by rw [ByteArray.size_append, str_size]; show _ + 2 ≤ _; omega
  sm := fun f hf => by simp at hf
theorem LnAt.next {s : List UInt8} {l : List Fd.Fld} {k : Nat} {T : ByteArray} (h : LnAt s l k T) {f : Fd.Fld} {t : List UInt8} (hf : l[k]? = some f) (hp : Fd.printS f = some t) (ht : t.length ≤ 500) : LnAt s l (k + 1) (T ++ str t ++ ⟨#[13, 10]⟩) := by
  obtain ⟨ls, e1, e2, e3, e4⟩ := h.ex
  obtain ⟨k1, k2, k3⟩ := field_line hp
  have htk : l.take (k + 1) = l.take k ++ [f] := by rw [List.take_add_one, hf]; rfl
  refine ⟨⟨ls ++ [t], by simp [e1], fun x hx => ?_, by rw [List.map_append, e3, htk]; simp [k2], ?_⟩, ?_, fun x hx => ?_⟩
  · rcases List.mem_append.1 hx with hx | hx
    · exact e2 x hx
    · rw [List.mem_singleton.1 hx]; exact k1
  · rw [e4, lines_snoc]
    apply bs_inj
    simp only [Asc.bs_add, bs_str]
    simp
  · have := h.le
    rw [ByteArray.size_append, ByteArray.size_append, str_size t]
    show _ + 2 ≤ _
    omega
  · rw [htk] at hx
    rcases List.mem_append.1 hx with hx | hx
    · exact h.sm x hx
    · rw [List.mem_singleton.1 hx]
      have : t.length = f.name.length + 2 + f.text.length := by rw [k3]; simp [Fd.lineF]; omega
      omega
theorem first_is {r : Rl.Rq} {l : List UInt8} (h : Rl.printS r = some l) : Rl.okR r ∧ l = Rl.lineR r := by
  unfold Rl.printS at h
  split at h
  · rename_i ho
    cases h
    exact ⟨ho, rfl⟩
  · cases h
/-! fields' lines, one behind the other -/
structure RsAt (l : List Fd.Fld) (k : Nat) (T : ByteArray) : Prop where
  ex : ∃ ls : List (List UInt8), ls.length = k ∧ (∀ x ∈ ls, OkL x) ∧ ls.map fldOf = l.take k ∧ T = str (linesS ls)
  le : T.size ≤ 502 * k
theorem RsAt.start (l : List Fd.Fld) : RsAt l 0 ⟨#[]⟩ := ⟨⟨[], rfl, (fun x hx => by cases hx), rfl, rfl⟩, Nat.zero_le _⟩
theorem RsAt.next {l : List Fd.Fld} {k : Nat} {T : ByteArray} (h : RsAt l k T) {f : Fd.Fld} {t : List UInt8} (hf : l[k]? = some f) (hp : Fd.printS f = some t) (ht : t.length ≤ 500) : RsAt l (k + 1) (T ++ str t ++ ⟨#[13, 10]⟩) := by
  obtain ⟨ls, e1, e2, e3, e4⟩ := h.ex
  obtain ⟨k1, k2, k3⟩ := field_line hp
  have htk : l.take (k + 1) = l.take k ++ [f] := by rw [List.take_add_one, hf]; rfl
  refine ⟨⟨ls ++ [t], by simp [e1], fun x hx => ?_, by rw [List.map_append, e3, htk]; simp [k2], ?_⟩, ?_⟩
  · rcases List.mem_append.1 hx with hx | hx
    · exact e2 x hx
    · rw [List.mem_singleton.1 hx]; exact k1
  · rw [e4, lines_snoc]
    apply bs_inj
    simp only [Asc.bs_add, bs_str]
    simp
  · have := h.le
    rw [ByteArray.size_append, ByteArray.size_append, str_size t]
    show _ + 2 ≤ _
    omega
/-- two heads, one of them with a field of another name ahead -/
theorem two_heads {r : Rl.Rq} {s t : List UInt8} {f : Fd.Fld} {ls : List (List UInt8)} (hs : Rl.printS r = some s) (ht : Fd.printS f = some t) (hf : f.name ≠ Au.hostN) (hk : ∀ x ∈ ls, OkL x) (hl : ls.length ≤ 90) :
    (allH (headS s ls)).u = (headS s ls).length ∧ (allH (headS s (t :: ls))).u = (headS s ls).length + t.length + 2 ∧ (allH (headS s (t :: ls))).z = (allH (headS s ls)).z ∧ (allH (headS s (t :: ls))).r = (allH (headS s ls)).r ∧ (allH (headS s (t :: ls))).h = (allH (headS s ls)).h ∧ (allH (headS s (t :: ls))).p = (allH (headS s ls)).p ∧ (allH (headS s ls)).z ≠ 0 := by
  have hok := first_is hs
  have hp : Plain s := by rw [hok.2]; exact line_plain hok.1
  obtain ⟨k1, k2, k3⟩ := field_line ht
  obtain ⟨u1, d1⟩ := head_known (q := r) (s := s) (ls := ls) hp (Rl.print_is hs) hk (by omega)
  obtain ⟨u2, d2⟩ := head_known (q := r) (s := s) (ls := t :: ls) hp (Rl.print_is hs) (fun x hx => by
    rcases List.mem_cons.1 hx with hx | hx
    · rw [hx]; exact k1
    · exact hk x hx) (by simp; omega)
  have ej : judgeS r ((t :: ls).map fldOf) = judgeS r (ls.map fldOf) := by
    rw [List.map_cons, k2]
    exact judge_other r _ f hf
  unfold doneS at d1 d2
  rw [ej] at d2
  obtain ⟨a1, a2, a3, a4⟩ := d1
  obtain ⟨b1, b2, b3, b4⟩ := d2
  refine ⟨u1, ?_, b1.trans a1.symm, b2.trans a2.symm, b3.trans a3.symm, b4.trans a4.symm, ?_⟩
  · rw [u2, head_len, head_len]
    simp [linesS]
    omega
  · rw [a1]
    split <;> decide
theorem few_text (l : List Fd.Fld) (h : ∀ f ∈ l, f.text.length ≤ 500) : (Fd.findS Au.hostN l).1.length ≤ 500 := by
  rcases Fd.find_mem (nm := Au.hostN) (l := l) with h1 | ⟨f, hf, h1⟩
  · rw [h1]; exact Nat.zero_le _
  · rw [← h1]; exact h f hf
end Go.Proofs.YtgbhnjkigjecmaaGreatDoor.Hp
