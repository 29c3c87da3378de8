/-
  What parsing an address or a Cidr answers, in plain words. No condition.
-/
import Derived.Test.YtlpondbcnfaggaaGreatDoorR03
namespace Go.Proofs.YtlpondbcnfaggaaGreatDoor.Ad
open Go Go.Proofs.YtlpondbcnfaggaaGreatDoor.Asc

theorem foldv_nn (B : Int) (hB : 0 ≤ B) : ∀ (l : List UInt8) (a n : Int), 0 ≤ a → foldv B l a = some n → 0 ≤ n
  | [], a, n, ha, h => by unfold foldv at h; injection h with h; omega
  | c :: r, a, n, ha, h => by
    unfold foldv at h
    split at h
    · cases h
    · rename_i d hd
      have := hex_bd hd
      split at h
      · exact foldv_nn B hB r _ n (by have := Int.mul_nonneg ha hB; omega) h
      · cases h
theorem numS_bd {l : List UInt8} {most n : Int} (h : numS l most = some n) : 0 ≤ n ∧ n ≤ most := by
  unfold numS at h
  split at h
  · cases h
  · split at h
    · cases h
    · rename_i m hm
      split at h
      · cases h
      · injection h with h
        subst h
        refine ⟨?_, by omega⟩
        unfold digitsS at hm
        split at hm
        · cases hm
        · exact foldv_nn 10 (by omega) _ _ _ (by omega) hm

/-- k numbers with a dot between two -/
def dotS : Nat → List UInt8 → Option (List UInt8)
  | 0, _ => some []
  | k + 1, l => match numS (Lib.cut l [46]).1 255 with
    | none => none
    | some n => if (Lib.cut l [46]).2.2 = (k == 0) then none else (dotS k (Lib.cut l [46]).2.1).map (UInt8.ofNat n.toNat :: ·)
theorem dotS_len : ∀ (k : Nat) (l b : List UInt8), dotS k l = some b → b.length = k
  | 0, _, b, h => by simp [dotS] at h; subst h; rfl
  | k + 1, l, b, h => by
    unfold dotS at h
    split at h
    · cases h
    · split at h
      · cases h
      · simp only [Option.map_eq_some_iff] at h
        obtain ⟨r, hr, rfl⟩ := h
        simp [dotS_len k _ r hr]
/-- a group, or a dotted text that stands for two -/
def grpS (l : List UInt8) (dotted : Bool) : Option (List UInt8) := match hexS l with
  | some n => some [UInt8.ofNat (n.toNat / 256), UInt8.ofNat (n.toNat % 256)]
  | none => if dotted then dotS 4 l else none
/-- groups with a colon between two -/
def sideGo (last : Bool) : Nat → List UInt8 → List UInt8 → Option (List UInt8)
  | 0, _, _ => none
  | f + 1, acc, l => match grpS (Lib.cut l [58]).1 (last && !(Lib.cut l [58]).2.2) with
    | none => none
    | some b => if 16 < acc.length + b.length then none else if (Lib.cut l [58]).2.2 then sideGo last f (acc ++ b) (Lib.cut l [58]).2.1 else some (acc ++ b)
def sideS (l : List UInt8) (last : Bool) : Option (List UInt8) := if l = [] then some [] else sideGo last (l.length + 1) [] l
def shortS (h t : List UInt8) : Option (List UInt8) := match sideS h false, sideS t true with
  | some x, some y => if 14 < x.length + y.length then none else some (x ++ List.replicate (16 - x.length - y.length) 0 ++ y)
  | _, _ => none
def groupsS (l : List UInt8) : Option (List UInt8) :=
  if (Lib.cut l [58, 58]).2.2 then shortS (Lib.cut l [58, 58]).1 (Lib.cut l [58, 58]).2.1
  else match sideS l true with
    | some x => if x.length < 16 then none else some x
    | none => none
def parseS (l : List UInt8) : Option (List UInt8) := if 0 ≤ Lib.indexByte l 58 then groupsS l else (dotS 4 l).map of4S
def cparseS (l : List UInt8) : Option C := match parseS (Lib.cut l [47]).1 with
  | none => none
  | some a => match numS (Lib.cut l [47]).2.1 (if 0 ≤ Lib.indexByte (Lib.cut l [47]).1 58 then 128 else 32) with
    | none => none
    | some n => some (ofS a ((if 0 ≤ Lib.indexByte (Lib.cut l [47]).1 58 then 0 else 96) + n))

theorem grpS_len {l : List UInt8} {d : Bool} {b : List UInt8} (h : grpS l d = some b) : b.length = 2 ∨ b.length = 4 := by
  unfold grpS at h
  split at h
  · injection h with h; subst h; exact .inl rfl
  · split at h
    · exact .inr (dotS_len 4 _ _ h)
    · cases h
theorem sideGo_le (last : Bool) : ∀ (f : Nat) (acc l b : List UInt8), sideGo last f acc l = some b → b.length ≤ 16
  | 0, _, _, _, h => by cases h
  | f + 1, acc, l, b, h => by
    unfold sideGo at h
    split at h
    · cases h
    · split at h
      · cases h
      · split at h
        · exact sideGo_le last f _ _ b h
        · injection h with h; subst h; simp; omega
theorem sideS_le {l : List UInt8} {last : Bool} {b : List UInt8} (h : sideS l last = some b) : b.length ≤ 16 := by
  unfold sideS at h
  split at h
  · injection h with h; subst h; simp
  · exact sideGo_le _ _ _ _ _ h
theorem groupsS_len {l a : List UInt8} (h : groupsS l = some a) : a.length = 16 := by
  unfold groupsS at h
  split at h
  · unfold shortS at h
    split at h
    · split at h
      · cases h
      · injection h with h; subst h; simp; omega
    · cases h
  · split at h
    · rename_i x hx
      have := sideS_le hx
      split at h
      · cases h
      · injection h with h; subst h; omega
    · cases h
theorem parseS_len {l a : List UInt8} (h : parseS l = some a) : a.length = 16 := by
  unfold parseS at h
  split at h
  · exact groupsS_len h
  · simp only [Option.map_eq_some_iff] at h
    obtain ⟨b, hb, rfl⟩ := h
    simp [of4S, dotS_len 4 _ _ hb]
theorem cparseS_len {l : List UInt8} {c : C} (h : cparseS l = some c) : c.a.length = 16 := by
  unfold cparseS at h
  split at h
  · cases h
  · rename_i a ha
    split at h
    · cases h
    · injection h with h; subst h
      show (maskS _ _).length = 16
      rw [maskS_length, parseS_len ha]
theorem cut_le (l sep : List UInt8) : (Lib.cut l sep).1.length ≤ l.length ∧ (Lib.cut l sep).2.1.length ≤ l.length := by
  unfold Lib.cut
  split
  · simp; omega
  · simp
theorem cut_lt {l sep : List UInt8} (hs : sep ≠ []) (h : (Lib.cut l sep).2.2 = true) : (Lib.cut l sep).2.1.length < l.length := by
  unfold Lib.cut at h ⊢
  split at h
  · rename_i h0
    rw [if_pos h0]
    have h1 : 0 < sep.length := List.length_pos_iff.2 hs
    have h2 : l ≠ [] := by
      rintro rfl
      unfold Lib.index at h0
      cases sep with
      | nil => exact hs rfl
      | cons a b => simp at h0
    have h3 : 0 < l.length := List.length_pos_iff.2 h2
    simp
    omega
  · cases h
end Go.Proofs.YtlpondbcnfaggaaGreatDoor.Ad

/-
  Contract of package addr's parseDotted over this seat's translation.
-/
namespace Go.Proofs.YtlpondbcnfaggaaGreatDoor.Ad
open Go.RowKit Go.Proofs.YtlpondbcnfaggaaGreatDoor.Wd Go.Proofs.YtlpondbcnfaggaaGreatDoor.Asc

/-- two results, the first one in a block -/
theorem ret_two {fn : Func} {p q : Tmp} {ty t : TypeId} {a : Act} {w : World} {g n : Nat} {C : Array Value} {v : Value} {d : TypeDesc} {R : Ending → World → Prop} (hf : fn.results = #[.cell p ty, .tmp q]) (hb : Blk w g t C) (hu : Tryz.prog.underlying ty = some d)
    (hd : d.isRow = true) (hi : (Tryz.prog.info? ty).map (·.size) = some n) (hn : C.size = n) (hp : a.tmps.getD p undef = .pointer (some ⟨g, 0, none⟩)) (hq : a.tmps.getD q undef = v) (h : R (.returned (.tuple #[.agg C, v])) w) (hdf : a.defers = []) : bodyPost Tryz.prog fn R .ret a w := by
  have hp' : a.tmps[p]?.getD undef = .pointer (some ⟨g, 0, none⟩) := by simpa using hp
  have hq' : a.tmps[q]?.getD undef = v := by simpa using hq
  have hl := run_loadVar_row w g t ty C (0, 0) d hb hu (by cases d <;> first | rfl | cases hd) (by rw [hi, hn])
  exact bodyPost_ret (v := .tuple #[.agg C, v]) (by simp [results, hf, hp', hq', asAddr, hl]) hdf h
/-- a variable is built of nothing -/
theorem go_bd0 {ops : Array Oper} {rest : List Oper} {o : Oper} {a : Act} {w : World} {Q : Exit → Act → World → Prop} (ty : TypeId) (C : Array Value) (hB : Tryz.prog.built ty [] = some C) (hg : o.guard = none) (ho : o.op = .build ty #[])
    (h : wpList Tryz.prog ops Q rest (a.put o.dst (.agg C)) w) : wpList Tryz.prog ops Q (o :: rest) a w := by
  have e : Tryz.prog.built ty ((#[] : Array (Nat × Operand)).map fun (i, x) => (i, a.eval x)).toList = some C := by simpa using hB
  refine wpList_build hg _ _ ho (by rw [e]; rfl) ?_
  rw [e]
  exact h
theorem built4 : Tryz.prog.built 90 [] = some (cA (List.replicate 4 0)) := by kernel_rfl

theorem dotS_step (k : Nat) (l : List UInt8) : dotS (k + 1) l = (match numS (Lib.cut l [46]).1 255 with
    | none => none
    | some n => if (Lib.cut l [46]).2.2 = (k == 0) then none else (dotS k (Lib.cut l [46]).2.1).map (UInt8.ofNat n.toNat :: ·)) := rfl

def DotAt (B : Nat) (l0 : List UInt8) (w : World) (s i : Value) (w' : World) : Prop :=
  ∃ (k : Nat) (l acc : List UInt8), k ≤ 4 ∧ i = .int .i64 k ∧ s = .string (str l) ∧ l.length ≤ l0.length ∧ acc.length = k ∧ dotS 4 l0 = (dotS (4 - k) l).map (acc ++ ·) ∧
    Blk w' w.heap.size 90 (cA (List.replicate 4 0)) ∧ Blk w' (w.heap.size + 1) 90 (cA (acc ++ List.replicate (4 - k) 0)) ∧ Below w.heap.size w w' ∧ Env B w'

def DotPost (l : List UInt8) (w : World) (e : Ending) (w' : World) : Prop :=
  e = .returned (.tuple #[.agg (cA ((dotS 4 l).getD (List.replicate 4 0))), .bool (dotS 4 l).isSome]) ∧ Below w.heap.size w w'

set_option maxHeartbeats 4000000 in
theorem dotted_any {B : Nat} (l : List UInt8) (w : World) (hE : Env B w) (hl : l.length < 4294967281) :
    Calls Tryz.prog 54 #[.string (str l)] w (DotPost l w) := by
  have HE := Lib.hid hE
  clear hE
  go_enter Tryz.func54, Tryz.ntmps54
  go_wp2_with fail
  go_loopw [0, 12] (fun s i w' => DotAt B l w s i w') (fun _ i _ => 4 - (intOf i).toNat)
  case atStart =>
    have hb : Below w.heap.size w ((w.alloc (.cells (cA (List.replicate 4 0)) 90)).alloc (.cells (cA (List.replicate 4 0)) 90)) := ((Below.refl _ _).alloc (Nat.le_refl _) _).alloc (by simp) _
    exact ⟨0, l, [], by omega, rfl, rfl, Nat.le_refl _, rfl, (by cases dotS 4 l <;> rfl), (blk_at _ _ _ _ _ rfl rfl).alloc _, blk_at _ _ _ _ _ (by rw [alloc_size]) rfl, hb, HE.out.on hb⟩
  case round =>
    obtain ⟨k, r, acc, hk, rfl, rfl, hr, ha, hd, b0, b1, hbel, hE⟩ := hrel
    have HE1 := Lib.hid hE
    have HL := Lib.hid hbel
    have HB0 := Lib.hid b0
    have HB1 := Lib.hid b1
    have HD := Lib.hid hd
    clear hE hbel hd
    by_cases hlt : k < 4
    · clear b0 b1
      have hk3 : ((k : Int) == 3) = ((3 - k : Nat) == 0) := by
        rw [Bool.eq_iff_iff, beq_iff_eq, beq_iff_eq]; omega
      have HK3 := Lib.hid hk3
      have HS := Lib.hid (dotS_step (3 - k) r)
      rw [show 3 - k + 1 = 4 - k by omega] at HS
      have hcl := cut_le r [46]
      have hc1 : (str (Lib.cut r [46]).1).size ≤ maxLen := by rw [str_size]; unfold maxLen; omega
      have HC := Lib.hid hc1
      have HC2 := Lib.hid hcl.2
      clear hk3 hcl hc1
      go_wp2_with fail
      refine (cut_any r [46] _ HE1.out (by omega)).mono ?_
      rintro e w1 ⟨rfl, hb1⟩
      generalize hcut : Lib.cut r [46] = cu at *
      obtain ⟨p1, p2, more⟩ := cu
      have HB := Lib.hid hb1
      have HCU := Lib.hid hcut
      clear hb1 hcut
      go_wp2_with fail
      refine (number_any (str p1) 255 _ (by exact HC.out)).mono ?_
      rintro e w2 ⟨rfl, hb2⟩
      have HB2 := Lib.hid (HL.out.trans ((HB.out.trans (hb2.mono HB.out.size)).mono HL.out.size))
      have c0 := HB0.out.below (HB.out.trans (hb2.mono HB.out.size)) HB0.out.lt
      have c1 := HB1.out.below (HB.out.trans (hb2.mono HB.out.size)) HB1.out.lt
      have HE2 := Lib.hid (HE1.out.on (HB.out.trans (hb2.mono HB.out.size)))
      have C0 := Lib.hid c0
      have C1 := Lib.hid c1
      clear hb2 c0 c1
      rw [show bs (str p1) = p1 from rfl]
      cases hn : numS p1 255 with
      | none =>
        have HZ := Lib.hid (show dotS 4 l = none by rw [HD.out, HS.out, hn]; rfl)
        rw [dTup]
        clear hn
        go_wp2_with (first
          | (refine go_bd0 90 _ built4 rfl rfl ?_)
          | (refine go_st 90 C0.out info4 rfl rfl (cA_one _) rfl rfl rfl rfl ?_))
        exact ret_two Tryz.results54 (setRow_blk C0.out) und4 rfl info4 rfl rfl rfl ⟨by rw [HZ.out]; rfl, setRow_below HB2.out C0.out (Nat.le_refl _) _⟩ rfl
      | some n =>
        obtain ⟨n0, n1⟩ := numS_bd hn
        rw [hn] at HS
        rw [dTup]
        clear hn
        obtain ⟨c, rfl⟩ : ∃ c : UInt8, n = (c.toNat : Int) := ⟨UInt8.ofNat n.toNat, by
          rw [UInt8.toNat_ofNat']; omega⟩
        have HS2 : Hid (dotS (4 - k) r = if more = (3 - k == 0) then none else (dotS (3 - k) p2).map (c :: ·)) := by
          have h := HS.out
          simp only [Int.toNat_natCast, UInt8.ofNat_toNat] at h
          exact h
        clear HS
        have HS := HS2
        clear HS2
        have hk3 := HK3.out
        have hle : B ≤ w.heap.size := HE.out.le
        have hcell : w2.cell? ⟨w.heap.size + 1, k, none⟩ = some (.int .u8 0) := by
          rw [cell_a C1.out k, List.getElem?_append_right (by omega), List.getElem?_replicate, if_pos (by omega)]; rfl
        have hfr := C1.out.frozen k
        have hnew := C1.out.set_ k (.int .u8 (c.toNat : Int))
        rw [cA_set, set_mid acc k (4 - k) 0 c ha (by omega), show acc ++ c :: List.replicate (4 - k - 1) 0 = (acc ++ [c]) ++ List.replicate (4 - (k + 1)) 0 by rw [List.append_assoc, show 4 - k - 1 = 4 - (k + 1) by omega]; rfl] at hnew
        cases hL : (3 - k == 0) <;> rw [hL] at hk3 HS <;> clear hL <;> cases more
        · -- not the last one, no dot behind
          have HZ := Lib.hid (show dotS 4 l = none by rw [HD.out, HS.out]; simp)
          clear HS HD
          go_wp2_with (first
            | (refine go_bd0 90 _ built4 rfl rfl ?_)
            | (refine go_st 90 C0.out info4 rfl rfl (cA_one _) rfl rfl rfl rfl ?_))
          exact ret_two Tryz.results54 (setRow_blk C0.out) und4 rfl info4 rfl rfl rfl ⟨by rw [HZ.out]; rfl, setRow_below HB2.out C0.out (Nat.le_refl _) _⟩ rfl
        · have HZ := Lib.hid (show dotS 4 l = (dotS (4 - (k + 1)) p2).map ((acc ++ [c]) ++ ·) by
            rw [HD.out, HS.out, show 4 - (k + 1) = 3 - k by omega]
            cases dotS (3 - k) p2 <;> simp)
          clear HS HD
          go_wp2
          go_roundw
          case rel => exact ⟨k + 1, p2, acc ++ [c], by omega, by go_num, rfl, Nat.le_trans HC2.out hr, by simp [ha], HZ.out, C0.out.far (by simp) _, hnew, HB2.out.setCell (by simp) _, HE2.out.below (Below.setCell (Below.refl _ _) (by simp; omega) _)⟩
          case measure => simp [intOf]; omega
        · have HZ := Lib.hid (show dotS 4 l = (dotS (4 - (k + 1)) p2).map ((acc ++ [c]) ++ ·) by
            rw [HD.out, HS.out, show 4 - (k + 1) = 3 - k by omega]
            cases dotS (3 - k) p2 <;> simp)
          clear HS HD
          go_wp2
          go_roundw
          case rel => exact ⟨k + 1, p2, acc ++ [c], by omega, by go_num, rfl, Nat.le_trans HC2.out hr, by simp [ha], HZ.out, C0.out.far (by simp) _, hnew, HB2.out.setCell (by simp) _, HE2.out.below (Below.setCell (Below.refl _ _) (by simp; omega) _)⟩
          case measure => simp [intOf]; omega
        · -- the last one, a dot behind
          have HZ := Lib.hid (show dotS 4 l = none by rw [HD.out, HS.out]; simp)
          clear HS HD
          go_wp2_with (first
            | (refine go_bd0 90 _ built4 rfl rfl ?_)
            | (refine go_st 90 C0.out info4 rfl rfl (cA_one _) rfl rfl rfl rfl ?_))
          exact ret_two Tryz.results54 (setRow_blk C0.out) und4 rfl info4 rfl rfl rfl ⟨by rw [HZ.out]; rfl, setRow_below HB2.out C0.out (Nat.le_refl _) _⟩ rfl
    · obtain rfl : k = 4 := by omega
      have e4 : acc ++ List.replicate (4 - 4) 0 = acc := by simp
      rw [e4] at b1
      have HZ := Lib.hid (show dotS 4 l = some acc by rw [HD.out]; simp [dotS])
      go_wp2_with (first
        | (refine go_ld 90 b1 und4 rfl info4 (by rw [cA_size, ha]) rfl rfl rfl ?_)
        | (refine go_st 90 b0 info4 rfl (by rw [cA_size, ha]) (cA_one _) rfl rfl rfl rfl ?_))
      exact ret_two Tryz.results54 (setRow_blk b0) und4 rfl info4 (by rw [cA_size, ha]) rfl rfl ⟨by rw [HZ.out]; rfl, setRow_below HL.out b0 (Nat.le_refl _) _⟩ rfl
end Go.Proofs.YtlpondbcnfaggaaGreatDoor.Ad

/-
  Contract of package addr's parseGroup over this seat's translation.
-/
namespace Go.Proofs.YtlpondbcnfaggaaGreatDoor.Ad
open Go.RowKit Go.Proofs.YtlpondbcnfaggaaGreatDoor.Wd Go.Proofs.YtlpondbcnfaggaaGreatDoor.Asc

theorem foldv_lt (B : Nat) : ∀ (l : List UInt8) (a n : Int), 0 ≤ a → foldv B l a = some n → n < (a + 1) * ((B ^ l.length : Nat) : Int)
  | [], a, n, _, h => by unfold foldv at h; injection h with h; simp; omega
  | c :: r, a, n, ha, h => by
    unfold foldv at h
    split at h
    · cases h
    · rename_i d hd
      have hb := hex_bd hd
      split at h
      · rename_i hdB
        have h0 : (0 : Int) ≤ a * B := Int.mul_nonneg ha (by omega)
        have h1 := foldv_lt B r _ n (by omega) h
        have h2 : (a * B + d + 1) * ((B ^ r.length : Nat) : Int) ≤ ((a + 1) * B) * ((B ^ r.length : Nat) : Int) :=
          Int.mul_le_mul_of_nonneg_right (by rw [Int.add_mul, Int.one_mul]; omega) (by omega)
        rw [List.length_cons, Nat.pow_succ, Nat.mul_comm, Int.natCast_mul, ← Int.mul_assoc]
        exact Int.lt_of_lt_of_le h1 h2
      · cases h
theorem hexS_bd {l : List UInt8} {n : Int} (h : hexS l = some n) : 0 ≤ n ∧ n < 65536 := by
  unfold hexS digitsS at h
  split at h
  · cases h
  · rename_i hl
    refine ⟨foldv_nn 16 (by omega) _ _ _ (by omega) h, ?_⟩
    have h1 := foldv_lt 16 l 0 n (by omega) h
    have h2 : (16 ^ l.length : Nat) ≤ 16 ^ 4 := Nat.pow_le_pow_right (by omega) (by omega)
    have h3 : (16 ^ 4 : Nat) = 65536 := by decide
    omega
theorem fstB (N : Nat) (h : N < 65536) : (UInt8.ofNat (N / 256)).toNat = N / 256 := by rw [UInt8.toNat_ofNat']; omega
theorem sndB (N : Nat) : (UInt8.ofNat (N % 256)).toNat = N % 256 := by rw [UInt8.toNat_ofNat']; omega

def GrpPost (l : List UInt8) (d : Bool) (w : World) (e : Ending) (w' : World) : Prop :=
  ∃ A n c, e = .returned (.tuple #[.slice A n c, .bool (grpS l d).isSome]) ∧ (∀ b, grpS l d = some b → n = b.length ∧ Src w' A n b) ∧ Below w.heap.size w w'

set_option maxHeartbeats 1000000 in
theorem group_any {B : Nat} (l : List UInt8) (d : Bool) (w : World) (hE : Env B w) (hl : l.length < 4294967281) :
    Calls Tryz.prog 134 #[.string (str l), .bool d] w (GrpPost l d w) := by
  have hsz : (str l).size ≤ maxLen := by rw [str_size]; unfold maxLen; omega
  have hb16 : bs (str l) = l := rfl
  cases hh : hexS l with
  | some n =>
    obtain ⟨n0, n1⟩ := hexS_bd hh
    obtain ⟨N, rfl⟩ : ∃ N : Nat, n = (N : Int) := ⟨n.toNat, by omega⟩
    have hG := Lib.hid (show grpS l d = some [UInt8.ofNat (N / 256), UInt8.ofNat (N % 256)] by rw [grpS, hh]; simp)
    have HH := Lib.hid hh
    have e1 := fstB N (by omega)
    have e2 := sndB N
    clear hh
    go_enter Tryz.func134, Tryz.ntmps134
    go_wp2_with fail
    refine (hex_any (str l) _ hsz).mono ?_
    rintro e w1 ⟨rfl, hb1⟩
    rw [hb16, HH.out, dTup]
    have HB := Lib.hid hb1
    clear hb1 hb16
    go_wp2
    go_ret2
    refine ⟨some ⟨w1.heap.size, 0, none⟩, 2, 2, by rw [hG.out]; rfl, fun b hb => ?_, HB.out.alloc HB.out.size _⟩
    rw [hG.out] at hb
    injection hb with hb
    subst hb
    refine ⟨rfl, Src.marked w1 _ _ _ [UInt8.ofNat (N / 256), UInt8.ofNat (N % 256)] ?_⟩
    show _ = #[Value.int .u8 ((UInt8.ofNat (N / 256)).toNat : Int), .int .u8 ((UInt8.ofNat (N % 256)).toNat : Int)]
    rw [e1, e2]
    simp
  | none =>
    have HH := Lib.hid hh
    cases d with
    | false =>
      have hG := Lib.hid (show grpS l false = none by rw [grpS, hh]; rfl)
      clear hh
      go_enter Tryz.func134, Tryz.ntmps134
      go_wp2_with fail
      refine (hex_any (str l) _ hsz).mono ?_
      rintro e w1 ⟨rfl, hb1⟩
      rw [hb16, HH.out, dTup]
      have HB := Lib.hid hb1
      clear hb1 hb16
      go_wp2
      go_ret2
      exact ⟨none, 0, 0, by rw [hG.out]; rfl, fun b hb => (by rw [hG.out] at hb; cases hb), HB.out⟩
    | true =>
      have hG := Lib.hid (show grpS l true = dotS 4 l by rw [grpS, hh]; rfl)
      have hlen : ((dotS 4 l).getD (List.replicate 4 0)).length = 4 := by
        cases h : dotS 4 l with
        | none => rfl
        | some b => exact dotS_len 4 l b h
      clear hh
      go_enter Tryz.func134, Tryz.ntmps134
      go_wp2_with fail
      refine (hex_any (str l) _ hsz).mono ?_
      rintro e w1 ⟨rfl, hb1⟩
      rw [hb16, HH.out, dTup]
      have HE1 := hE.on hb1
      have HB := Lib.hid hb1
      clear hb1 hb16
      go_wp2_with fail
      refine (dotted_any l _ HE1 hl).mono ?_
      rintro e w2 ⟨rfl, hb2⟩
      have HB2 := Lib.hid (HB.out.trans (hb2.mono HB.out.size))
      clear hb2
      have hX : ∀ b, dotS 4 l = some b → (dotS 4 l).getD (List.replicate 4 0) = b := fun b h => by rw [h]; rfl
      have HX := Lib.hid hX
      clear hX
      generalize (dotS 4 l).getD (List.replicate 4 0) = X at *
      go_wp2_with (refine go_st 90 (Blk.new _ _ _) info4 rfl (by rw [cA_size, hlen]) (cA_one _) rfl rfl rfl rfl ?_)
      go_ret2
      have hb3 : Below w.heap.size w (w2.alloc (.cells #[.int .u8 0, .int .u8 0, .int .u8 0, .int .u8 0] 90)) := HB2.out.alloc HB2.out.size _
      refine ⟨some ⟨w2.heap.size, 0, none⟩, 4, 4, by rw [hG.out]; rfl, fun b hb => ?_, setRow_below hb3 (Blk.new _ _ _) HB2.out.size _⟩
      rw [hG.out] at hb
      have hbl := dotS_len 4 l b hb
      obtain rfl := HX.out b hb
      refine ⟨hbl.symm, ?_⟩
      have := src_all (setRow_blk (new := cA X) (Blk.new w2 90 #[.int .u8 0, .int .u8 0, .int .u8 0, .int .u8 0]))
      rwa [hbl] at this
end Go.Proofs.YtlpondbcnfaggaaGreatDoor.Ad

/-
  Contract of package addr's parseSide over this seat's translation.
-/
namespace Go.Proofs.YtlpondbcnfaggaaGreatDoor.Ad
open Go.RowKit Go.Proofs.YtlpondbcnfaggaaGreatDoor.Wd Go.Proofs.YtlpondbcnfaggaaGreatDoor.Asc

theorem infoS : (Tryz.prog.info? 147).map (·.size) = some 17 := by kernel_rfl
theorem undS : Tryz.prog.underlying 147 = some (.struct (Tryz.prog.fieldsOf 147)) := by kernel_rfl
theorem builtS : Tryz.prog.built 147 [] = some (C.cells ⟨List.replicate 16 0, 0⟩) := by kernel_rfl

/-- bytes as a side: the bytes, and how many they are -/
def sideC (x : List UInt8) : C := ⟨x ++ List.replicate (16 - x.length) 0, x.length⟩
theorem sideC_len {x : List UInt8} (h : x.length ≤ 16) : (sideC x).a.length = 16 := by simp [sideC]; omega
theorem splC (c : C) (off : Nat) (ys : List UInt8) (h : off + ys.length ≤ c.a.length) : splice (cellsOf c.a ++ [Value.int .i64 c.n]) off (cellsOf ys) = cellsOf (splB c.a off ys) ++ [Value.int .i64 c.n] := by
  unfold splice splB
  rw [List.take_append_of_le_length (by rw [cellsOf_length]; omega), List.drop_append_of_le_length (by rw [cellsOf_length, cellsOf_length]; omega)]
  simp [cellsOf]
theorem C_setn (a : List UInt8) (n m : Int) (h : a.length = 16) : (C.cells ⟨a, n⟩).setIfInBounds 16 (.int .i64 m) = C.cells ⟨a, m⟩ := by
  apply Array.ext'
  simp only [C.cells, Array.toList_setIfInBounds]
  rw [List.set_append_right _ _ (by rw [cellsOf_length]; omega), cellsOf_length, h]
  rfl
theorem sideC_app (x b : List UInt8) (_h : x.length + b.length ≤ 16) : C.mk (splB (sideC x).a x.length b) (((x.length + b.length : Nat) : Int)) = sideC (x ++ b) := by
  simp only [sideC, splB]
  congr 1
  · rw [List.take_append_of_le_length (Nat.le_refl _), List.take_length, List.drop_append, List.drop_of_length_le (by omega), List.drop_replicate]
    simp
    omega
  · simp

/-- copy into the bytes of a side, or of a Cidr, as one step of a region that draws its order -/
theorem step_cpC {ops : Array Oper} {o : Oper} {a : Act} {w : World} {K : Act → World → Prop} {Q : Exit → Act → World → Prop} {E : Prop} {d s : Operand} {dp sp : Option Addr} {dLen dCap sLen sCap : Nat} (g off : Nat) {t : TypeId} {c : C} {ys : List UInt8}
    (hb : Blk w g t c.cells) (hsrc : Src w sp sLen ys) (hgd : o.guard = none)
    (ho : o.op = .call { callee := .builtin .copy, args := #[d, s], argTypes := #[110, 110] }) (hd : a.eval d = .slice dp dLen dCap) (hs : a.eval s = .slice sp sLen sCap) (hle : sLen ≤ dLen)
    (hdp : 0 < sLen → dp = some ⟨g, off, none⟩) (hfit : off + sLen ≤ c.a.length)
    (h : ∀ w', RowKit.Hid (Blk w' g t (C.cells ⟨splB c.a off ys, c.n⟩)) → RowKit.Hid (RowKit.Below g w w') → K (a.put o.dst (goInt sLen)) w') :
    if Region.wanted o (yielded ops a.tmps) = true then Oper.wp Tryz.prog o a w K Q else E := by
  have hl := hsrc.1
  refine step_copy_splice hgd d s 110 110 ho 5 Tryz.underlying110 size8 dp sp dLen dCap sLen sCap hd hs g off (cellsOf c.a ++ [Value.int .i64 c.n]) t hb (cellsOf ys)
    (by rw [cellsOf_length, hl]; exact (Nat.min_eq_left hle).symm) ?_ (by rw [cellsOf_length, List.length_append, cellsOf_length, hl]; omega) (cellsOf_one ys) g w (Below.refl _ _) (Nat.le_refl _) ?_
  · intro h0
    rw [cellsOf_length, hl] at h0
    obtain ⟨ad, e, hlt, hc⟩ := hsrc.2 h0
    refine ⟨hdp h0, ad, e, fun j v hv => ?_⟩
    simp only [cellsOf, List.getElem?_map, Option.map_eq_some_iff] at hv
    obtain ⟨x, hx, rfl⟩ := hv
    exact hc j x hx
  · intro w' hg' hb'
    rw [cellsOf_length, hl]
    exact h w' (by have := hg'.out; rw [splC c off ys (by omega)] at this; exact this) hb'

def sideM : Value → Value → Nat
  | .string b, .bool true => b.size + 1
  | _, _ => 0
def SideAt (B : Nat) (l : List UInt8) (last : Bool) (w : World) (s m : Value) (w' : World) : Prop :=
  ∃ (acc r : List UInt8) (f : Nat) (mo : Bool), s = .string (str r) ∧ m = .bool mo ∧ acc.length ≤ 16 ∧ r.length ≤ l.length ∧
    (mo = true → r.length < f ∧ sideS l last = sideGo last f acc r) ∧ (mo = false → sideS l last = some acc) ∧
    Blk w' w.heap.size 147 (C.cells ⟨List.replicate 16 0, 0⟩) ∧ Blk w' (w.heap.size + 1) 147 (sideC acc).cells ∧ Below w.heap.size w w' ∧ Env B w'
def SidePost (l : List UInt8) (last : Bool) (w : World) (e : Ending) (w' : World) : Prop :=
  e = .returned (.tuple #[.agg (sideC ((sideS l last).getD [])).cells, .bool (sideS l last).isSome]) ∧ Below w.heap.size w w'

theorem sideGo_step (last : Bool) (f : Nat) (acc l : List UInt8) : sideGo last (f + 1) acc l = (match grpS (Lib.cut l [58]).1 (last && !(Lib.cut l [58]).2.2) with
    | none => none
    | some b => if 16 < acc.length + b.length then none else if (Lib.cut l [58]).2.2 then sideGo last f (acc ++ b) (Lib.cut l [58]).2.1 else some (acc ++ b)) := rfl

theorem C_cell16 {w : World} {g t : Nat} {c : C} (h : Blk w g t c.cells) (hc : c.a.length = 16) : w.cell? ⟨g, 16, none⟩ = some (.int .i64 c.n) := by
  rw [h.cell]; simp [C.cells, cellsOf_length, hc]

set_option linter.unusedSimpArgs false in
set_option maxHeartbeats 4000000 in
theorem side_any {B : Nat} (l : List UInt8) (last : Bool) (w : World) (hE : Env B w) (hl : l.length < 4294967281) :
    Calls Tryz.prog 95 #[.string (str l), .bool last] w (SidePost l last w) := by
  have HE := Lib.hid hE
  clear hE
  go_enter Tryz.func95, Tryz.ntmps95
  go_wp2_with fail
  go_loopw [0, 7] (fun s m w' => SideAt B l last w s m w') (fun s m _ => sideM s m)
  case atStart =>
    have hb : Below w.heap.size w ((w.alloc (.cells (C.cells ⟨List.replicate 16 0, 0⟩) 147)).alloc (.cells (C.cells ⟨List.replicate 16 0, 0⟩) 147)) := ((Below.refl _ _).alloc (Nat.le_refl _) _).alloc (by simp) _
    refine ⟨[], l, l.length + 1, !l.isEmpty, rfl, rfl, by simp, Nat.le_refl _, fun h => ⟨by omega, ?_⟩, fun h => ?_, (blk_at _ _ _ _ _ rfl rfl).alloc _, blk_at _ _ _ _ _ (by rw [alloc_size]) rfl, hb, HE.out.on hb⟩
    · rw [sideS, if_neg (by rintro rfl; cases h)]
    · have : l = [] := by simpa using h
      rw [sideS, if_pos this]
  case round =>
    obtain ⟨acc, r, f, mo, rfl, rfl, ha, hr, hyes, hno, b0, b1, hbel, hE1⟩ := hrel
    have hL16 := sideC_len ha
    cases mo with
    | false =>
      have HZ := Lib.hid (hno rfl)
      clear hyes hno
      go_wp2_with (first
        | (refine go_ld 147 b1 undS rfl infoS (C_size _ hL16) rfl rfl rfl ?_)
        | (refine go_st 147 b0 infoS rfl (C_size _ hL16) (C_one _) rfl rfl rfl rfl ?_))
      exact ret_two Tryz.results95 (setRow_blk b0) undS rfl infoS (C_size _ hL16) rfl rfl ⟨by rw [HZ.out]; rfl, setRow_below hbel b0 (Nat.le_refl _) _⟩ rfl
    | true =>
      obtain ⟨hf, hgo⟩ := hyes rfl
      obtain ⟨f, rfl⟩ : ∃ k, f = k + 1 := ⟨f - 1, by omega⟩
      have HG := Lib.hid (hgo.trans (sideGo_step last f acc r))
      have hcl := cut_le r [58]
      have hct := cut_lt (l := r) (sep := [58]) (by simp)
      have hE1' := hE1
      have HB0 := Lib.hid b0
      have HB1 := Lib.hid b1
      have HL := Lib.hid hbel
      clear hyes hno hgo b0 b1 hbel
      go_wp2_with fail
      refine (cut_any r [58] _ hE1' (by omega)).mono ?_
      rintro e w1 ⟨rfl, hb1⟩
      generalize hcut : Lib.cut r [58] = cu at *
      obtain ⟨p1, p2, mo⟩ := cu
      simp only at HG hcl hct
      have HE2 := hE1'.on hb1
      have HB := Lib.hid hb1
      clear hb1 hcut hE1 hE1'
      cases last with
      | false =>
        go_wp2_with fail
        refine (group_any p1 _ _ HE2 (by omega)).mono ?_
        rintro e w2 ⟨A, n, cp, rfl, hsrc, hb2⟩
        have HB2 := Lib.hid (HB.out.trans (hb2.mono HB.out.size))
        have G0 := Lib.hid (HB0.out.below HB2.out HB0.out.lt)
        have G1 := Lib.hid (HB1.out.below HB2.out HB1.out.lt)
        have GL := Lib.hid (HL.out.trans (HB2.out.mono HL.out.size))
        have HE3 := HE2.on hb2
        have hlen := fun b h => And.intro (hsrc b h) (grpS_len h)
        clear hsrc
        simp only [Bool.false_and, Bool.true_and, Bool.not_true, Bool.not_false, if_true, Bool.false_eq_true, if_false] at HG
        clear hb2
        generalize grpS p1 false = go at *
        cases go with
        | none =>
          have HZ := Lib.hid (HG.out)
          simp only at HZ
          clear HG hlen
          go_wp2_with (first
            | (refine go_bd0 147 _ builtS rfl rfl ?_)
            | (refine go_st 147 G0.out infoS rfl rfl (C_one _) rfl rfl rfl rfl ?_))
          exact ret_two Tryz.results95 (setRow_blk G0.out) undS rfl infoS rfl rfl rfl ⟨by rw [HZ.out]; rfl, setRow_below GL.out G0.out (Nat.le_refl _) _⟩ rfl
        | some b =>
          obtain ⟨⟨rfl, hs⟩, hb24⟩ := hlen b rfl
          have HSR := Lib.hid hs
          clear hlen hs
          simp only at HG
          have hu := C_cell16 G1.out hL16
          rw [show (sideC acc).n = (acc.length : Int) from rfl] at hu
          by_cases hbig : 16 < acc.length + b.length
          · have HZ := Lib.hid (HG.out.trans (if_pos hbig))
            have hbi : (16 : Int) < (acc.length : Int) + (b.length : Int) := by omega
            clear HG
            go_wp2_with (first
              | (refine go_bd0 147 _ builtS rfl rfl ?_)
              | (refine go_st 147 G0.out infoS rfl rfl (C_one _) rfl rfl rfl rfl ?_))
            exact ret_two Tryz.results95 (setRow_blk G0.out) undS rfl infoS rfl rfl rfl ⟨by rw [HZ.out]; rfl, setRow_below GL.out G0.out (Nat.le_refl _) _⟩ rfl
          · have HZ := Lib.hid (HG.out.trans (if_neg hbig))
            have hbi : ¬ (16 : Int) < (acc.length : Int) + (b.length : Int) := by omega
            clear HG
            go_wp2_with fail
            have hac : (acc.length : Int) ≤ 16 := by omega
            have hac2 : ¬ 16 = acc.length := by omega
            have hfr := G1.out.frozen 16
            have HSP := Lib.hid (show (splB (sideC acc).a acc.length b).length = 16 by rw [splB_length _ _ _ (by rw [hL16]; omega), hL16])
            go_region_law (refine step_cpC (w.heap.size + 1) acc.length (by exact G1.out) (by first | exact HSR.out | exact HSR.out.below (Below.refl _ _).drew) rfl rfl rfl rfl (by omega) (fun _ => rfl) (by rw [hL16]; omega) ?_; intro w4 hg4 hb4; have hu4 := C_cell16 hg4.out HSP.out; have hfr4 := hg4.out.frozen 16)
            all_goals (
              have hset := hg4.out.set_ 16 (.int .i64 ((acc.length : Int) + (b.length : Int)))
              rw [C_setn _ _ _ HSP.out, ← Int.natCast_add, sideC_app acc b (by omega), Int.natCast_add] at hset
              have HSET := Lib.hid hset
              have hb5 : Below (w.heap.size + 1) w2 w4 := (Below.refl _ _).drew.trans hb4.out
              have HG5 := Lib.hid (G0.out.below hb5 (by omega))
              have HL5 := Lib.hid (GL.out.trans (hb5.mono (by omega)))
              have HE5 := Lib.hid (HE3.below (hb5.mono (by have := HE.out.le; omega)))
              have hBle := HE.out.le
              clear hset hg4 hb4 hb5
              have hw : IntKind.i64.wrap ((acc.length : Int) + (b.length : Int)) = (acc.length : Int) + (b.length : Int) := by rw [IntKind.wrap_i64]; omega
              have HW := Lib.hid hw
              clear hw
              go_wp2
              have hw := HW.out
              go_roundw
              case rel => exact ⟨acc ++ b, p2, f, mo, rfl, rfl, by simp; omega, by omega, fun h => ⟨by have := hct h; omega, by rw [HZ.out, if_pos h]⟩, fun h => by rw [HZ.out, if_neg (by rw [h]; simp)], HG5.out.far (by simp) _, (by first | exact HSET.out | (rw [hw]; exact HSET.out) | (rw [show (sideC acc).n = (acc.length : Int) from rfl, hw]; exact HSET.out)), HL5.out.setCell (by simp) _, HE5.out.below ((Below.refl _ _).setCell (by simp; omega) _)⟩
              case measure =>
                show sideM (.string (str p2)) (.bool mo) < (str r).size + 1
                rw [str_size]
                cases mo with
                | false => show 0 < _; omega
                | true => show (str p2).size + 1 < _; rw [str_size]; have := hct rfl; omega)
      | true =>
        go_wp2_with fail
        refine (group_any p1 _ _ HE2 (by omega)).mono ?_
        rintro e w2 ⟨A, n, cp, rfl, hsrc, hb2⟩
        have HB2 := Lib.hid (HB.out.trans (hb2.mono HB.out.size))
        have G0 := Lib.hid (HB0.out.below HB2.out HB0.out.lt)
        have G1 := Lib.hid (HB1.out.below HB2.out HB1.out.lt)
        have GL := Lib.hid (HL.out.trans (HB2.out.mono HL.out.size))
        have HE3 := HE2.on hb2
        have hlen := fun b h => And.intro (hsrc b h) (grpS_len h)
        clear hsrc
        simp only [Bool.false_and, Bool.true_and, Bool.not_true, Bool.not_false, if_true, Bool.false_eq_true, if_false] at HG
        clear hb2
        generalize grpS p1 (!mo) = go at *
        cases go with
        | none =>
          have HZ := Lib.hid (HG.out)
          simp only at HZ
          clear HG hlen
          go_wp2_with (first
            | (refine go_bd0 147 _ builtS rfl rfl ?_)
            | (refine go_st 147 G0.out infoS rfl rfl (C_one _) rfl rfl rfl rfl ?_))
          exact ret_two Tryz.results95 (setRow_blk G0.out) undS rfl infoS rfl rfl rfl ⟨by rw [HZ.out]; rfl, setRow_below GL.out G0.out (Nat.le_refl _) _⟩ rfl
        | some b =>
          obtain ⟨⟨rfl, hs⟩, hb24⟩ := hlen b rfl
          have HSR := Lib.hid hs
          clear hlen hs
          simp only at HG
          have hu := C_cell16 G1.out hL16
          rw [show (sideC acc).n = (acc.length : Int) from rfl] at hu
          by_cases hbig : 16 < acc.length + b.length
          · have HZ := Lib.hid (HG.out.trans (if_pos hbig))
            have hbi : (16 : Int) < (acc.length : Int) + (b.length : Int) := by omega
            clear HG
            go_wp2_with (first
              | (refine go_bd0 147 _ builtS rfl rfl ?_)
              | (refine go_st 147 G0.out infoS rfl rfl (C_one _) rfl rfl rfl rfl ?_))
            exact ret_two Tryz.results95 (setRow_blk G0.out) undS rfl infoS rfl rfl rfl ⟨by rw [HZ.out]; rfl, setRow_below GL.out G0.out (Nat.le_refl _) _⟩ rfl
          · have HZ := Lib.hid (HG.out.trans (if_neg hbig))
            have hbi : ¬ (16 : Int) < (acc.length : Int) + (b.length : Int) := by omega
            clear HG
            go_wp2_with fail
            have hac : (acc.length : Int) ≤ 16 := by omega
            have hac2 : ¬ 16 = acc.length := by omega
            have hfr := G1.out.frozen 16
            have HSP := Lib.hid (show (splB (sideC acc).a acc.length b).length = 16 by rw [splB_length _ _ _ (by rw [hL16]; omega), hL16])
            go_region_law (refine step_cpC (w.heap.size + 1) acc.length (by exact G1.out) (by first | exact HSR.out | exact HSR.out.below (Below.refl _ _).drew) rfl rfl rfl rfl (by omega) (fun _ => rfl) (by rw [hL16]; omega) ?_; intro w4 hg4 hb4; have hu4 := C_cell16 hg4.out HSP.out; have hfr4 := hg4.out.frozen 16)
            all_goals (
              have hset := hg4.out.set_ 16 (.int .i64 ((acc.length : Int) + (b.length : Int)))
              rw [C_setn _ _ _ HSP.out, ← Int.natCast_add, sideC_app acc b (by omega), Int.natCast_add] at hset
              have HSET := Lib.hid hset
              have hb5 : Below (w.heap.size + 1) w2 w4 := (Below.refl _ _).drew.trans hb4.out
              have HG5 := Lib.hid (G0.out.below hb5 (by omega))
              have HL5 := Lib.hid (GL.out.trans (hb5.mono (by omega)))
              have HE5 := Lib.hid (HE3.below (hb5.mono (by have := HE.out.le; omega)))
              have hBle := HE.out.le
              clear hset hg4 hb4 hb5
              have hw : IntKind.i64.wrap ((acc.length : Int) + (b.length : Int)) = (acc.length : Int) + (b.length : Int) := by rw [IntKind.wrap_i64]; omega
              have HW := Lib.hid hw
              clear hw
              go_wp2
              have hw := HW.out
              go_roundw
              case rel => exact ⟨acc ++ b, p2, f, mo, rfl, rfl, by simp; omega, by omega, fun h => ⟨by have := hct h; omega, by rw [HZ.out, if_pos h]⟩, fun h => by rw [HZ.out, if_neg (by rw [h]; simp)], HG5.out.far (by simp) _, (by first | exact HSET.out | (rw [hw]; exact HSET.out) | (rw [show (sideC acc).n = (acc.length : Int) from rfl, hw]; exact HSET.out)), HL5.out.setCell (by simp) _, HE5.out.below ((Below.refl _ _).setCell (by simp; omega) _)⟩
              case measure =>
                show sideM (.string (str p2)) (.bool mo) < (str r).size + 1
                rw [str_size]
                cases mo with
                | false => show 0 < _; omega
                | true => show (str p2).size + 1 < _; rw [str_size]; have := hct rfl; omega)
end Go.Proofs.YtlpondbcnfaggaaGreatDoor.Ad
