/-
  Package name's Labels once more, over this seat's translation: the row that it answers lies in a block of strings. Condition: texts shorter than 4294967281 bytes.
-/
import Derived.Test.YtlpondbcnfaggaaGreatDoorR30
import Derived.Test.YtlpondbcnfaggaaGreatDoorR31
namespace Go.Proofs.YtlpondbcnfaggaaGreatDoor.Nm
open Go.RowKit Go.Proofs.YtlpondbcnfaggaaGreatDoor.Wd Go.Proofs.YtlpondbcnfaggaaGreatDoor.Asc Go.Proofs.YtlpondbcnfaggaaGreatDoor.Ad

/-- the slice v leads to the strings L, in a block of strings -/
def RowB (w : World) (v : Value) (L : List (List UInt8)) : Prop :=
  ∃ g c cur, v = .slice (some ⟨g, 0, none⟩) L.length c ∧ Blk w g 9 cur ∧ ∀ (k : Nat) (l : List UInt8), L[k]? = some l → cur[k]? = some (Value.string (str l))
theorem Fill.rowB {w : World} {g n : Nat} {L : List (List UInt8)} (h : Fill w g n n L) (hn : L.length = n) : RowB w (.slice (some ⟨g, 0, none⟩) n n) L := by
  obtain ⟨cur, h1, h2, h3⟩ := h.at_
  exact ⟨g, n, cur, by rw [hn], h1, fun k l hk => h3 k l (by have := (List.getElem?_eq_some_iff.1 hk).1; omega) hk⟩
theorem RowB.one (s : ByteArray) (w : World) : RowB (w.alloc (.cells #[.string s] 9)) (.slice (some ⟨w.heap.size, 0, none⟩) 1 1) [bs s] :=
  ⟨_, 1, _, rfl, Blk.new _ _ _, fun k l hk => by
    match k, hk with
    | 0, hk =>
      injection hk with hk
      subst hk
      rw [str_bs]
      rfl
    | k + 1, hk => simp at hk⟩
set_option maxRecDepth 100000 in
set_option maxHeartbeats 4000000 in
/-- what stands between dots, the last one first -/
theorem backward_blk {B : Nat} (s : ByteArray) (w : World) (hE : Env B w) (hs : s.size < 4294967281) :
    Calls Tryz.prog 90 #[.string s] w fun e w' => ∃ v, e = .returned v ∧ RowB w' v (splitS 46 (bs s)).reverse ∧ Below w.heap.size w w' := by
  have HS := Lib.hid (split_any (B := B) s 46 w hE hs)
  have hsz : ∀ p ∈ splitS 46 (bs s), p.length ≤ 140737488355328 := fun p hp => by
    have := spl_mem 46 (bs s) p hp
    rw [bs_length] at this
    omega
  have hle := spl_len 46 (bs s)
  rw [bs_length] at hle
  obtain ⟨L, hL⟩ : ∃ L, splitS 46 (bs s) = L := ⟨_, rfl⟩
  obtain ⟨n, hn⟩ : ∃ n, L.length = n := ⟨_, rfl⟩
  rw [hL] at HS hsz hle ⊢
  rw [hn] at hle
  obtain ⟨C, hC, hmk⟩ := make_strs n (by omega)
  have HZ := Lib.hid hsz
  have HN := Lib.hid hn
  have hn9 : n ≤ 4294967281 := by omega
  clear hL hsz hle hE hs
  go_enter Tryz.func90, Tryz.ntmps90
  go_wp2_with fail
  refine HS.out.mono ?_
  rintro e w1 ⟨v, rfl, hr, hb⟩
  obtain ⟨g, c, rfl, hc, hg, hcell⟩ := hr
  rw [HN.out]
  have HB := Lib.hid hb
  have HC := Lib.hid hcell
  have HF : Hid (Fill (w1.alloc (.cells C 9)) w1.heap.size n 0 L.reverse) := Lib.hid ⟨C, Blk.new w1 _ C, hC, fun j l hj => by omega⟩
  have hw1 : w.heap.size ≤ w1.heap.size := hb.size
  clear hb hcell hC HS hc
  go_wp2_with fail
  clear hmk
  obtain ⟨G, hG⟩ : ∃ G, w1.heap.size = G := ⟨_, rfl⟩
  have HB1 : Hid (Below G w1 (w1.alloc (.cells C 9))) := Lib.hid ((Below.refl _ _).alloc (by rw [hG]; exact Nat.le_refl _) _)
  rw [hG] at hg hw1 HF ⊢
  have HW := Lib.hid hw1
  clear hw1
  go_loopw [13] (fun i wr => ∃ k : Nat, k ≤ n ∧ i = .int .i64 (k : Int) ∧ Hid (Fill wr G n k L.reverse) ∧ Hid (Below G w1 wr)) (fun i _ => n - (intOf i).toNat)
  case atStart => exact ⟨0, Nat.zero_le _, rfl, HF, HB1⟩
  case round =>
    obtain ⟨k, hk, rfl, HFk, HBk⟩ := hrel
    by_cases hlt : k < n
    · obtain ⟨p, hp⟩ : ∃ p, L.reverse[k]? = some p := ⟨_, List.getElem?_eq_getElem (by rw [List.length_reverse, HN.out]; exact hlt)⟩
      have hq : L[n - 1 - k]? = some p := by rw [rev_at HN.out hlt]; exact hp
      have hz := HZ.out p (List.mem_of_getElem? hq)
      obtain ⟨P, hP⟩ : ∃ P, str p = P := ⟨_, rfl⟩
      have hPz : P.size ≤ 140737488355328 := by rw [← hP, str_size]; exact hz
      obtain ⟨m, hm⟩ : ∃ m, n - 1 - k = m := ⟨_, rfl⟩
      have hmi : (n : Int) - 1 - (k : Int) = (m : Int) := by omega
      have hml : m < n := by omega
      rw [hm] at hq
      have hcl : wr.cell? ⟨g, m, none⟩ = some (.string P) := by rw [HBk.out.cell (p := ⟨g, m, none⟩) hg, ← hP]; exact HC.out m p hq
      have HK := Lib.hid (fun u => clone_any P u hPz)
      have HP := Lib.hid hP
      have Hp := Lib.hid hp
      clear hq hz hP hPz hm hp
      go_wp2_with fail
      refine (HK.out _).mono ?_
      rintro e w2 ⟨rfl, hb2⟩
      have HF2 := Lib.hid (HFk.out.below hb2)
      have HB2 := Lib.hid (HBk.out.trans (hb2.mono (by have := HBk.out.size; have := hG; omega)))
      obtain ⟨cur, hblk, hcs, _⟩ := HF2.out.at_
      have hcl2 : ∃ u, w2.cell? ⟨G, k, none⟩ = some u := by rw [hblk.cell]; exact ⟨_, Array.getElem?_eq_getElem (by omega)⟩
      obtain ⟨u, hcu⟩ := hcl2
      have hfr := hblk.frozen k
      have HF3 := Lib.hid (HF2.out.next hlt Hp.out)
      have HB3 := Lib.hid (HB2.out.setCell (p := ⟨G, k, none⟩) (Nat.le_refl _) (.string (str p)))
      rw [HP.out] at HF3 HB3
      clear hb2 hblk hcl HK
      go_wp2_with fail
      go_roundw
      case rel => exact ⟨k + 1, hlt, by go_num, HF3, HB3⟩
      case measure => simp [intOf]; omega
    · obtain rfl : k = n := by omega
      go_wp2_with fail
      go_ret
      refine ⟨_, rfl, HFk.out.rowB (by rw [List.length_reverse, HN.out]), HB.out.trans (HBk.out.mono HW.out)⟩
set_option linter.unusedSimpArgs false in
set_option maxRecDepth 100000 in
set_option maxHeartbeats 4000000 in
theorem labels_blk {B : Nat} (s : ByteArray) (w : World) (hE : Env B w) (hs : s.size < 4294967281) :
    Calls Tryz.prog 79 #[.string s] w fun e w' => ∃ v, e = .returned v ∧ RowB w' v (labelsS (bs s)) ∧ Below w.heap.size w w' := by
  have HE := Lib.hid hE
  clear hE
  cases hx : Ad.parseS (bs s) with
  | some a =>
    obtain ⟨V, hV, hVa, hP⟩ := parse_at (B := B) s hs _ hx
    clear hVa
    have HPa2 : Hid (∀ w, Ad.Env B w → Calls Tryz.prog 28 #[.string s] w fun e w' => e = .returned (.tuple #[.agg (Ad.cA V), .bool true]) ∧ Below w.heap.size w w') := Lib.hid hP
    have HC := Lib.hid (fun u => clone_any s u (by omega))
    have HQ : Hid (labelsS (bs s) = [bs s]) := Lib.hid (by unfold labelsS; rw [hx]; rfl)
    clear hP hx
    go_enter Tryz.func79, Tryz.ntmps79
    go_wp2_with fail
    refine (HPa2.out _ HE.out).mono ?_
    rintro e w2 ⟨rfl, hb⟩
    have HB1 := Lib.hid hb
    clear hb HPa2
    go_upto_region 2 with (refine St.go_st 48 (Blk.new _ _ _) Ad.info16 rfl (by rw [Ad.cA_size, hV]) (Ad.cA_one _) rfl rfl rfl rfl ?_)
    obtain ⟨_, hbl⟩ := adr_new w2 V
    have HB2 := Lib.hid (HB1.out.trans (hbl.mono HB1.out.size))
    clear hbl HB1
    generalize (w2.alloc (.cells #[Value.int .u8 0, Value.int .u8 0, Value.int .u8 0, Value.int .u8 0, Value.int .u8 0, Value.int .u8 0, Value.int .u8 0, Value.int .u8 0, Value.int .u8 0, Value.int .u8 0, Value.int .u8 0, Value.int .u8 0, Value.int .u8 0, Value.int .u8 0, Value.int .u8 0, Value.int .u8 0] 48)).setRow w2.heap.size (Ad.cA V) = w3 at *
    go_wp2_with fail
    refine (HC.out _).mono ?_
    rintro e w4 ⟨rfl, hb⟩
    have HB4 := Lib.hid (HB2.out.trans (hb.mono HB2.out.size))
    clear hb HC HB2
    go_wp2_with fail
    go_ret
    refine ⟨_, rfl, ?_, HB4.out.alloc HB4.out.size _⟩
    rw [HQ.out]
    exact RowB.one s _
  | none =>
    obtain ⟨V, hV, hVa, hP⟩ := parse_at (B := B) s hs _ hx
    clear hVa
    have HPa2 : Hid (∀ w, Ad.Env B w → Calls Tryz.prog 28 #[.string s] w fun e w' => e = .returned (.tuple #[.agg (Ad.cA V), .bool false]) ∧ Below w.heap.size w w') := Lib.hid hP
    have HK := Lib.hid (fun u hE => backward_blk (B := B) s u hE hs)
    have HQ : Hid (labelsS (bs s) = (splitS 46 (bs s)).reverse) := Lib.hid (by unfold labelsS; rw [hx]; rfl)
    clear hP hx
    go_enter Tryz.func79, Tryz.ntmps79
    go_wp2_with fail
    refine (HPa2.out _ HE.out).mono ?_
    rintro e w2 ⟨rfl, hb⟩
    have HB1 := Lib.hid hb
    clear hb HPa2
    go_upto_region 2 with (refine St.go_st 48 (Blk.new _ _ _) Ad.info16 rfl (by rw [Ad.cA_size, hV]) (Ad.cA_one _) rfl rfl rfl rfl ?_)
    obtain ⟨_, hbl⟩ := adr_new w2 V
    have HB2 := Lib.hid (HB1.out.trans (hbl.mono HB1.out.size))
    clear hbl HB1
    generalize (w2.alloc (.cells #[Value.int .u8 0, Value.int .u8 0, Value.int .u8 0, Value.int .u8 0, Value.int .u8 0, Value.int .u8 0, Value.int .u8 0, Value.int .u8 0, Value.int .u8 0, Value.int .u8 0, Value.int .u8 0, Value.int .u8 0, Value.int .u8 0, Value.int .u8 0, Value.int .u8 0, Value.int .u8 0] 48)).setRow w2.heap.size (Ad.cA V) = w3 at *
    go_wp2_with fail
    refine (HK.out _ (HE.out.on HB2.out)).mono ?_
    rintro e w4 ⟨v, rfl, hr, hb⟩
    have HB4 := Lib.hid (HB2.out.trans (hb.mono HB2.out.size))
    have HR := Lib.hid hr
    clear hb HK HB2 hr
    go_wp2_with fail
    go_ret
    exact ⟨_, rfl, by rw [HQ.out]; exact HR.out, HB4.out⟩
end Go.Proofs.YtlpondbcnfaggaaGreatDoor.Nm

/-
  Contracts of package trie's isProtocol, labels, fits, Matches, Right over this seat's translation, and of slices.Index and slices.Contains at strings. Texts of up to two billion bytes.
-/
namespace Go.Proofs.YtlpondbcnfaggaaGreatDoor.Tr
open Go.RowKit Go.Proofs.YtlpondbcnfaggaaGreatDoor.Wd Go.Proofs.YtlpondbcnfaggaaGreatDoor.Asc Go.Proofs.YtlpondbcnfaggaaGreatDoor.Tx Go.Proofs.YtlpondbcnfaggaaGreatDoor.St

set_option linter.unusedSimpArgs false in
set_option maxRecDepth 100000 in
set_option maxHeartbeats 4000000 in
theorem tproto_any (s : ByteArray) (w : World) (hs : s.size ≤ 2147483640) :
    Calls Tryz.prog 36 #[.string s] w fun e w' => e = .returned (.bool (decide (s.size ≤ 255) && allS visI (bs s))) ∧ Below w.heap.size w w' := by
  have HV := Lib.hid (visible_any s w)
  generalize allS visI (bs s) = v at *
  by_cases h : s.size ≤ 255
  · have i1 : ((s.size : Nat) : Int) ≤ 255 := by omega
    have d1 : decide (((s.size : Nat) : Int) ≤ 255) = true := decide_eq_true i1
    rw [decide_eq_true h, Bool.true_and]
    clear h
    go_enter Tryz.func36, Tryz.ntmps36
    go_wp2_with (go_at_call 72; refine HV.out.mono ?_; rintro e w2 ⟨rfl, hb⟩)
    go_ret
    exact ⟨rfl, hb⟩
  · have i1 : ¬ ((s.size : Nat) : Int) ≤ 255 := by omega
    have d1 : decide (((s.size : Nat) : Int) ≤ 255) = false := decide_eq_false i1
    rw [decide_eq_false h, Bool.false_and]
    clear h HV
    go_enter Tryz.func36, Tryz.ntmps36
    go_wp2_with fail
    go_ret
    exact ⟨rfl, Below.refl _ _⟩

/-- texts that a slice leads to, in a block of texts -/
def RowT (w : World) (A : Option Addr) (ls : List (List UInt8)) : Prop := ls = [] ∨ ∃ g cur, A = some ⟨g, 0, none⟩ ∧ Blk w g 9 cur ∧ ∀ (k : Nat) (l : List UInt8), ls[k]? = some l → cur[k]? = some (Value.string (str l))
theorem RowT.but {S : List Nat} {w w' : World} {A : Option Addr} {ls : List (List UInt8)} (h : RowT w A ls) (k : But S w w') (hS : ∀ b ∈ S, ∀ cur, ¬ Blk w b 9 cur) : RowT w' A ls := by
  rcases h with h | ⟨g, cur, hA, hb, hc⟩
  · exact .inl h
  · exact .inr ⟨g, cur, hA, hb.but k (fun hm => hS g hm cur hb), hc⟩
theorem RowT.below {w w' : World} {A : Option Addr} {ls : List (List UInt8)} (h : RowT w A ls) (hb : Below w.heap.size w w') : RowT w' A ls := h.but (But.of_below hb []) (fun _ h => by cases h)
theorem RowT.at_ {w : World} {A : Option Addr} {ls : List (List UInt8)} (h : RowT w A ls) {k : Nat} {l : List UInt8} (hk : ls[k]? = some l) : ∃ g, A = some ⟨g, 0, none⟩ ∧ g < w.heap.size ∧ w.cell? ⟨g, k, none⟩ = some (.string (str l)) := by
  rcases h with h | ⟨g, cur, hA, hb, hc⟩
  · rw [h] at hk; simp at hk
  · exact ⟨g, hA, hb.lt, by rw [hb.cell]; exact hc k l hk⟩
theorem name_labels {B : Nat} (s : ByteArray) (w : World) (hE : Ad.Env B w) (hs : s.size ≤ 2147483640) :
    Calls Tryz.prog 79 #[.string s] w fun e w' => ∃ A c, e = .returned (.slice A (Nm.labelsS (bs s)).length c) ∧ RowT w' A (Nm.labelsS (bs s)) ∧ Below w.heap.size w w' := by
  refine (Nm.labels_blk s w hE (by omega)).mono ?_
  rintro e w' ⟨v, rfl, ⟨g, c, cur, rfl, hb1, hc⟩, hb⟩
  exact ⟨_, c, rfl, .inr ⟨g, cur, rfl, hb1, hc⟩, hb⟩
/-- the labels of a shape's name -/
def labP (N : List UInt8) : List (List UInt8) := if N = [] then [] else Nm.labelsS N
set_option linter.unusedSimpArgs false in
set_option maxRecDepth 100000 in
set_option maxHeartbeats 4000000 in
theorem tlabels_any {B : Nat} (N : ByteArray) (b : Bool) (w : World) (hE : Ad.Env B w) (hs : N.size ≤ 2147483640) :
    Calls Tryz.prog 120 #[.agg (shC N b)] w fun e w' => ∃ A c, e = .returned (.slice A (labP (bs N)).length c) ∧ RowT w' A (labP (bs N)) ∧ Below w.heap.size w w' := by
  have hb0 := Blk.new w 63 (shC N b)
  have hl0 : Below w.heap.size w (w.alloc (.cells (shC N b) 63)) := (Below.refl _ _).alloc (Nat.le_refl _) _
  have HL := Lib.hid (fun w' (hb : Below w.heap.size w w') => name_labels (B := B) N w' (hE.on hb) hs)
  have HB := Lib.hid hl0
  have c0 : (w.alloc (.cells (shC N b) 63)).cell? ⟨w.heap.size, 0, none⟩ = some (.string N) := hb0.cell 0
  have q0 := lit_is N []
  by_cases h0 : bs N = []
  · rw [decide_eq_true h0] at q0
    obtain ⟨e1, e2⟩ := Nm.is_empty h0
    have HM : Hid (labP (bs N) = []) := Lib.hid (by unfold labP; rw [if_pos h0])
    rw [HM.out]
    clear h0 hs hE hl0 HL hb0
    go_enter Tryz.func120, Tryz.ntmps120
    go_upto_region 1 with fail
    generalize w.alloc (.cells (shC N b) 63) = w2 at *
    go_wp2_with fail
    go_ret
    exact ⟨none, 0, rfl, .inl rfl, HB.out⟩
  · rw [decide_eq_false h0] at q0
    obtain ⟨e1, e2⟩ := Nm.no_empty h0
    have HM : Hid (labP (bs N) = Nm.labelsS (bs N)) := Lib.hid (by unfold labP; rw [if_neg h0])
    rw [HM.out]
    clear h0 hs hE hl0 hb0
    go_enter Tryz.func120, Tryz.ntmps120
    go_upto_region 1 with fail
    generalize w.alloc (.cells (shC N b) 63) = w2 at *
    go_wp2_with fail
    refine (HL.out _ HB.out).mono ?_
    rintro e w3 ⟨A, c, rfl, hr, hb3⟩
    have HR := Lib.hid hr
    have HB3 := Lib.hid (HB.out.trans (hb3.mono HB.out.size))
    clear hr hb3 HL
    go_wp2_with fail
    go_ret
    exact ⟨A, c, rfl, HR.out, HB3.out⟩

set_option linter.unusedSimpArgs false in
set_option maxRecDepth 100000 in
set_option maxHeartbeats 2000000 in
theorem tindex_any (A : Option Addr) (n c : Nat) (ss : List ByteArray) (T : ByteArray) (w : World) (hs : SrcS w A ss) (hn : ss.length = n) (hm : n ≤ 1000000) :
    Calls Tryz.prog 121 #[.slice A n c, .string T] w fun e w' => ∃ i : Int, e = .returned (.int .i64 i) ∧ Hid (anyS T ss = decide (0 ≤ i)) ∧ w = w' := by
  have HS := Lib.hid hs
  have HN := Lib.hid hn
  clear hs hn
  go_enter Tryz.func121, Tryz.ntmps121
  go_wp2_with fail
  go_loopw [8] (fun i wr => ∃ k, wr = w ∧ k ≤ n ∧ i = .int .i64 (k : Int) ∧ Hid (anyS T (ss.take k) = false)) (fun i _ => n - (intOf i).toNat)
  case atStart => exact ⟨0, rfl, Nat.zero_le _, rfl, Lib.hid (by simp [anyS])⟩
  case round =>
    obtain ⟨k, rfl, hk, rfl, HA⟩ := hrel
    by_cases hlt : k < n
    · have hki : (k : Int) < (n : Int) := by omega
      obtain ⟨x, g, o, hx, rfl, hg, hc⟩ := HS.out.get (wr := wr) (k := k) (by rw [HN.out]; exact hlt) (Below.refl _ _)
      have HX := Lib.hid hx
      have he := str_is T x
      have he2 := str_is x T
      clear hx hg
      by_cases h0 : bs x = bs T
      · rw [decide_eq_true h0] at he2
        rw [decide_eq_true h0.symm] at he
        have HC := Lib.hid (show anyS T ss = true by
          unfold anyS
          rw [List.any_eq_true]
          exact ⟨x, List.mem_of_getElem? HX.out, decide_eq_true h0⟩)
        clear h0
        go_wp2_with fail
        go_ret
        exact ⟨(k : Int), rfl, Lib.hid (by rw [HC.out, decide_eq_true (by omega)]), rfl⟩
      · rw [decide_eq_false h0] at he2
        rw [decide_eq_false (fun h => h0 h.symm)] at he
        have HA2 := Lib.hid (show anyS T (ss.take (k + 1)) = false by rw [anyS_next HX.out, HA.out, decide_eq_false h0]; rfl)
        clear h0
        go_wp2_with fail
        go_roundw
        case rel => exact ⟨k + 1, by first | rfl | trivial, by omega, by go_num, HA2⟩
        case measure => simp [intOf]; omega
    · obtain rfl : k = n := by omega
      have HC := Lib.hid (show anyS T ss = false by have := HA.out; rwa [← HN.out, List.take_length] at this)
      go_wp2_with fail
      go_ret
      exact ⟨-1, rfl, Lib.hid (by rw [HC.out]; rfl), rfl⟩
set_option linter.unusedSimpArgs false in
set_option maxRecDepth 100000 in
set_option maxHeartbeats 2000000 in
theorem tcontains_any (A : Option Addr) (n c : Nat) (ss : List ByteArray) (T : ByteArray) (w : World) (hs : SrcS w A ss) (hn : ss.length = n) (hm : n ≤ 1000000) :
    Calls Tryz.prog 81 #[.slice A n c, .string T] w fun e w' => e = .returned (.bool (anyS T ss)) ∧ w = w' := by
  have HI := Lib.hid (tindex_any A n c ss T w hs hn hm)
  clear hs hn hm
  go_enter Tryz.func81, Tryz.ntmps81
  go_wp2_with fail
  refine HI.out.mono ?_
  rintro e w1 ⟨i, rfl, hi, rfl⟩
  clear HI
  by_cases h : 0 ≤ i
  · have HC := Lib.hid (hi.out.trans (decide_eq_true h))
    clear hi
    go_wp2_with fail
    go_ret
    exact ⟨by rw [HC.out]; rfl, rfl⟩
  · have HC := Lib.hid (hi.out.trans (decide_eq_false h))
    have hd : decide (0 ≤ i) = false := decide_eq_false h
    clear hi
    go_wp2_with fail
    go_ret
    exact ⟨by rw [HC.out]; rfl, rfl⟩
theorem fit_is (r : Ru) (port : Int) (ss : List ByteArray) : fitB r port (ss.map bs) = ((decide (r.po = 0) || decide (r.po = port)) && (decide (r.ap = []) || anyS (str r.ap) ss)) := by
  unfold fitB
  rw [show r.ap = bs (str r.ap) from (bs_str _).symm, anyS_map, bs_str]
set_option linter.unusedSimpArgs false in
set_option maxRecDepth 100000 in
set_option maxHeartbeats 8000000 in
theorem tfits_any (r : Ru) (port : Int) (A : Option Addr) (n c : Nat) (ss : List ByteArray) (w : World) (hs : SrcS w A ss) (hn : ss.length = n) (hm : n ≤ 1000000) :
    Calls Tryz.prog 45 #[.agg (ruC r), .int .i64 port, .slice A n c] w fun e w' => e = .returned (.bool (fitB r port (ss.map bs))) ∧ Below w.heap.size w w' := by
  have HM := Lib.hid (fit_is r port ss)
  obtain ⟨T, hT⟩ : ∃ T, str r.ap = T := ⟨_, rfl⟩
  have hTb : bs T = r.ap := by rw [← hT, bs_str]
  rw [hT] at HM
  have hb0 := Blk.new w 23 (ruC r)
  have hl0 : Below w.heap.size w (w.alloc (.cells (ruC r) 23)) := (Below.refl _ _).alloc (Nat.le_refl _) _
  have HC := Lib.hid (fun w' (hb : Below w.heap.size w w') => tcontains_any A n c ss T w' (hs.below hb) hn hm)
  have HB := Lib.hid hl0
  obtain ⟨_, _, _, c3, c4⟩ := ru_cells hb0
  rw [hT] at c4
  have q0 := lit_is T []
  obtain ⟨v, hv⟩ : ∃ v, anyS T ss = v := ⟨_, rfl⟩
  rw [hv] at HC HM
  have HB0 := Lib.hid hb0.lt
  clear hs hn hm hT hv hl0 hb0
  obtain ⟨po, hpo⟩ : ∃ p, r.po = p := ⟨_, rfl⟩
  rw [hpo] at c3 HM
  rw [← hTb] at HM
  clear hpo hTb
  have key : ∀ b : Bool, fitB r port (ss.map bs) = b → ∀ w', Below w.heap.size w w' → Ending.returned (.bool b) = .returned (.bool (fitB r port (ss.map bs))) ∧ Below w.heap.size w w' := fun b h w' hb => ⟨by rw [h], hb⟩
  have HK := Lib.hid key
  clear key
  by_cases a1 : po = 0
  · subst a1
    by_cases a2 : bs T = []
    · obtain ⟨e1, e2⟩ := Nm.is_empty a2
      rw [decide_eq_true a2] at q0
      have HX := Lib.hid (HM.out.trans (by rw [decide_eq_true rfl, decide_eq_true a2]; rfl : _ = true))
      clear a2 HM HC
      go_enter Tryz.func45, Tryz.ntmps45
      go_upto_region 1 with fail
      generalize w.alloc (.cells (ruC r) 23) = w2 at *
      go_wp2_with fail
      go_ret
      exact HK.out _ HX.out _ HB.out
    · obtain ⟨e1, e2⟩ := Nm.no_empty a2
      rw [decide_eq_false a2] at q0
      have HX := Lib.hid (HM.out.trans (by rw [decide_eq_true rfl, decide_eq_false a2]; rfl : _ = v))
      clear a2 HM
      go_enter Tryz.func45, Tryz.ntmps45
      go_upto_region 1 with fail
      generalize w.alloc (.cells (ruC r) 23) = w2 at *
      go_wp2_with (go_at_call 81; refine (HC.out _ HB.out).mono ?_; rintro e w3 ⟨rfl, rfl⟩)
      go_ret
      exact HK.out _ HX.out _ HB.out
  by_cases a3 : po = port
  · subst a3
    have i1 : (po == 0) = false := by rw [beq_eq_false_iff_ne]; exact a1
    have i2 : (po == po) = true := by rw [beq_iff_eq]
    by_cases a2 : bs T = []
    · obtain ⟨e1, e2⟩ := Nm.is_empty a2
      rw [decide_eq_true a2] at q0
      have HX := Lib.hid (HM.out.trans (by rw [decide_eq_true (rfl : po = po), decide_eq_true a2, Bool.or_true]; rfl : _ = true))
      clear a1 a2 HM HC
      go_enter Tryz.func45, Tryz.ntmps45
      go_upto_region 1 with fail
      generalize w.alloc (.cells (ruC r) 23) = w2 at *
      go_wp2_with fail
      go_ret
      exact HK.out _ HX.out _ HB.out
    · obtain ⟨e1, e2⟩ := Nm.no_empty a2
      rw [decide_eq_false a2] at q0
      have HX := Lib.hid (HM.out.trans (by rw [decide_eq_true (rfl : po = po), decide_eq_false a2, Bool.or_true]; rfl : _ = v))
      clear a1 a2 HM
      go_enter Tryz.func45, Tryz.ntmps45
      go_upto_region 1 with fail
      generalize w.alloc (.cells (ruC r) 23) = w2 at *
      go_wp2_with (go_at_call 81; refine (HC.out _ HB.out).mono ?_; rintro e w3 ⟨rfl, rfl⟩)
      go_ret
      exact HK.out _ HX.out _ HB.out
  · have i1 : (po == 0) = false := by rw [beq_eq_false_iff_ne]; exact a1
    have i2 : (po == port) = false := by rw [beq_eq_false_iff_ne]; exact a3
    have HX := Lib.hid (HM.out.trans (by rw [decide_eq_false a1, decide_eq_false a3]; rfl : _ = false))
    clear a1 a3 HM HC q0
    go_enter Tryz.func45, Tryz.ntmps45
    go_upto_region 1 with fail
    generalize w.alloc (.cells (ruC r) 23) = w2 at *
    go_wp2_with fail
    go_ret
    exact HK.out _ HX.out _ HB.out

theorem bs_cat (a b : ByteArray) : bs (a ++ b) = bs a ++ bs b := by
  show (a ++ b).data.toList = _
  rw [ByteArray.data_append, Array.toList_append]
  rfl
theorem suf_dot (h N L : ByteArray) (hL : bs L = 46 :: bs N) (hh : h.size ≤ 9223372036854775807) (w' : World) : Calls Tryz.prog 39 #[.string h, .string L] w' fun e w'' => e = .returned (.bool (endB (bs N) (bs h))) ∧ w' = w'' := by
  refine (Tryz.strings_HasSuffix h L w' hh).mono fun _ _ ⟨h1, h2⟩ => ⟨?_, h2.symm⟩
  rw [h1, ← end_suf', ← hL]
  rfl
/-- a shape in a new block -/
theorem sh_put (w : World) (N : ByteArray) (b : Bool) : ∃ w2, (w.alloc (.cells #[.string ⟨#[]⟩, .bool false] 63)).setRow w.heap.size (shC N b) = w2 ∧ Blk w2 w.heap.size 63 (shC N b) ∧ Below w.heap.size w w2 :=
  ⟨_, rfl, setRow_blk (Blk.new _ _ _), setRow_below ((Below.refl _ _).alloc (Nat.le_refl _) _) (Blk.new _ _ _) (Nat.le_refl _) _⟩
set_option linter.unusedSimpArgs false in
set_option maxRecDepth 100000 in
set_option maxHeartbeats 8000000 in
theorem tmatch_any {B : Nat} (p h : ByteArray) (w : World) (hE : Ad.Env B w) (hp : p.size ≤ 1000000) (hh : h.size ≤ 1000000) :
    Calls Tryz.prog 16 #[.string p, .string h] w fun e w' => e = .returned (.bool (matchB (bs p) (bs h))) ∧ Below w.heap.size w w' := by
  obtain ⟨K, N, hc, hK, hN, hNe, hC⟩ := tparse_at (B := B) p (by omega)
  have HC := Lib.hid (hC w hE)
  clear hC hE
  have q0 := lit_is N []
  have hNz : N.size ≤ 1000000 := by omega
  rcases hK with rfl | rfl | rfl | rfl
  · have a2 : bs N = [] := hNe.2 (.inl rfl)
    obtain ⟨e1, e2⟩ := Nm.is_empty a2
    rw [decide_eq_true a2] at q0
    have HM : Hid (matchB (bs p) (bs h) = true) := Lib.hid (match_0 (by rw [hc, a2]) _)
    rw [show decide ((0 : Nat) < 2) = true from rfl, show decide ((0 : Nat) ≠ 3) = true from rfl] at HC
    clear hc a2 hNe hN hp
    go_enter Tryz.func16, Tryz.ntmps16
    go_wp2_with fail
    refine HC.out.mono ?_
    rintro e w2 ⟨rfl, hb⟩
    have HB := Lib.hid hb
    clear hb HC
    go_upto_region 2 with (refine go_st 63 (Blk.new _ _ _) infH rfl (shC_size _ _) (shC_one _ _) rfl rfl rfl rfl ?_)
    obtain ⟨w3, hw3, hb3, hl3⟩ := sh_put w2 N true
    rw [hw3]
    have c0 : w3.cell? ⟨w2.heap.size, 0, none⟩ = some (.string N) := hb3.cell 0
    have HB3 := Lib.hid (HB.out.trans (hl3.mono HB.out.size))
    clear hw3 hb3 hl3 HB
    go_wp2_with fail
    go_ret
    exact ⟨by rw [HM.out]; rfl, HB3.out⟩
  · have a2 : bs N ≠ [] := fun h => by have := hNe.1 h; omega
    obtain ⟨e1, e2⟩ := Nm.no_empty a2
    rw [decide_eq_false a2] at q0
    have HM : Hid (matchB (bs p) (bs h) = endB (bs N) (bs h)) := Lib.hid (match_1 hc _)
    obtain ⟨L, hL⟩ : ∃ L, (⟨#[46]⟩ : ByteArray) ++ N = L := ⟨_, rfl⟩
    have HS := Lib.hid (suf_dot h N L (by rw [← hL, bs_cat]; rfl) (by omega))
    have z0 : ((⟨#[46]⟩ : ByteArray) ++ N).size ≤ 1000001 := by rw [ByteArray.size_append]; show 1 + N.size ≤ _; omega
    have HX := Lib.hid hL
    clear hL
    rw [show decide ((1 : Nat) < 2) = true from rfl, show decide ((1 : Nat) ≠ 3) = true from rfl] at HC
    clear hc a2 hNe hN hp
    go_enter Tryz.func16, Tryz.ntmps16
    go_wp2_with fail
    refine HC.out.mono ?_
    rintro e w2 ⟨rfl, hb⟩
    have HB := Lib.hid hb
    clear hb HC
    go_upto_region 2 with (refine go_st 63 (Blk.new _ _ _) infH rfl (shC_size _ _) (shC_one _ _) rfl rfl rfl rfl ?_)
    obtain ⟨w3, hw3, hb3, hl3⟩ := sh_put w2 N true
    rw [hw3]
    have c0 : w3.cell? ⟨w2.heap.size, 0, none⟩ = some (.string N) := hb3.cell 0
    have c1 : w3.cell? ⟨w2.heap.size, 1, none⟩ = some (.bool true) := hb3.cell 1
    have HB3 := Lib.hid (HB.out.trans (hl3.mono HB.out.size))
    clear hw3 hb3 hl3 HB
    go_wp2_with fail
    rw [HX.out]
    refine (HS.out _).mono ?_
    rintro e w4 ⟨rfl, rfl⟩
    clear z0
    go_wp2_with fail
    go_ret
    exact ⟨by rw [HM.out]; rfl, HB3.out⟩
  · have a2 : bs N ≠ [] := fun h => by have := hNe.1 h; omega
    obtain ⟨e1, e2⟩ := Nm.no_empty a2
    rw [decide_eq_false a2] at q0
    have HM : Hid (matchB (bs p) (bs h) = decide (bs h = bs N)) := Lib.hid (match_2 hc _)
    have q1 := str_is h N
    obtain ⟨d, hd⟩ : ∃ d, decide (bs h = bs N) = d := ⟨_, rfl⟩
    rw [hd] at q1 HM
    rw [show decide ((2 : Nat) < 2) = false from rfl, show decide ((2 : Nat) ≠ 3) = true from rfl] at HC
    clear hc a2 hNe hN hp hd
    go_enter Tryz.func16, Tryz.ntmps16
    go_wp2_with fail
    refine HC.out.mono ?_
    rintro e w2 ⟨rfl, hb⟩
    have HB := Lib.hid hb
    clear hb HC
    go_upto_region 2 with (refine go_st 63 (Blk.new _ _ _) infH rfl (shC_size _ _) (shC_one _ _) rfl rfl rfl rfl ?_)
    obtain ⟨w3, hw3, hb3, hl3⟩ := sh_put w2 N false
    rw [hw3]
    have c0 : w3.cell? ⟨w2.heap.size, 0, none⟩ = some (.string N) := hb3.cell 0
    have c1 : w3.cell? ⟨w2.heap.size, 1, none⟩ = some (.bool false) := hb3.cell 1
    have HB3 := Lib.hid (HB.out.trans (hl3.mono HB.out.size))
    clear hw3 hb3 hl3 HB
    cases d
    · go_wp2_with fail
      go_ret
      exact ⟨by rw [HM.out]; rfl, HB3.out⟩
    · go_wp2_with fail
      go_ret
      exact ⟨by rw [HM.out]; rfl, HB3.out⟩
  · have HM : Hid (matchB (bs p) (bs h) = false) := Lib.hid (by unfold matchB; rw [hc]; rfl)
    rw [show decide ((3 : Nat) < 2) = false from rfl, show decide ((3 : Nat) ≠ 3) = false from rfl] at HC
    clear hc hNe hN hp q0
    go_enter Tryz.func16, Tryz.ntmps16
    go_wp2_with fail
    refine HC.out.mono ?_
    rintro e w2 ⟨rfl, hb⟩
    have HB := Lib.hid hb
    clear hb HC
    go_upto_region 2 with (refine go_st 63 (Blk.new _ _ _) infH rfl (shC_size _ _) (shC_one _ _) rfl rfl rfl rfl ?_)
    obtain ⟨w3, hw3, hb3, hl3⟩ := sh_put w2 N false
    rw [hw3]
    have HB3 := Lib.hid (HB.out.trans (hl3.mono HB.out.size))
    clear hw3 hb3 hl3 HB
    go_wp2_with fail
    go_ret
    exact ⟨by rw [HM.out]; rfl, HB3.out⟩
theorem tru_box (w : World) (a : Bool) (p : Int) (PA : ByteArray) (o : Int) (AP : ByteArray) : ∃ w2, w.alloc (.cells #[.bool a, .int .i64 p, .string PA, .int .i64 o, .string AP] 23) = w2 ∧ w.heap.size < w2.heap.size ∧ Below w.heap.size w w2 ∧
    w2.cell? ⟨w.heap.size, 0, none⟩ = some (.bool a) ∧ w2.cell? ⟨w.heap.size, 1, none⟩ = some (.int .i64 p) ∧ w2.cell? ⟨w.heap.size, 2, none⟩ = some (.string PA) ∧ w2.cell? ⟨w.heap.size, 3, none⟩ = some (.int .i64 o) ∧ w2.cell? ⟨w.heap.size, 4, none⟩ = some (.string AP) := by
  have b := Blk.new w 23 #[.bool a, .int .i64 p, .string PA, .int .i64 o, .string AP]
  exact ⟨_, rfl, b.lt, (Below.refl _ _).alloc (Nat.le_refl _) _, b.cell 0, b.cell 1, b.cell 2, b.cell 3, b.cell 4⟩
set_option linter.unusedSimpArgs false in
set_option maxRecDepth 100000 in
set_option maxHeartbeats 16000000 in
theorem tright_any {B : Nat} (r : Ru) (w : World) (hE : Ad.Env B w) (h1 : r.pa.length ≤ 1000000) (h2 : r.ap.length ≤ 1000000) :
    Calls Tryz.prog 14 #[.agg (ruC r)] w fun e w' => e = .returned (.int .i64 (rightS r)) ∧ Below w.heap.size w w' := by
  obtain ⟨al, pr, pa, po, ap⟩ := r
  obtain ⟨PA, hPA⟩ : ∃ A, str pa = A := ⟨_, rfl⟩
  obtain ⟨AP, hAP⟩ : ∃ A, str ap = A := ⟨_, rfl⟩
  have hpa : bs PA = pa := by rw [← hPA, bs_str]
  have hap : bs AP = ap := by rw [← hAP, bs_str]
  have z1 : PA.size ≤ 1000000 := by rw [← bs_length, hpa]; exact h1
  have z2 : AP.size ≤ 1000000 := by rw [← bs_length, hap]; exact h2
  obtain ⟨K, N, hc, hK, _, _, hC⟩ := tparse_at (B := B) PA (by omega)
  have HC := Lib.hid (fun w' (hb : Below w.heap.size w w') => hC w' (hE.on hb))
  obtain ⟨u, hu⟩ : ∃ u, (decide (AP.size ≤ 255) && allS visI (bs AP)) = u := ⟨_, rfl⟩
  have HV : Hid (∀ w, Calls Tryz.prog 36 #[.string AP] w fun e w' => e = .returned (.bool u) ∧ Below w.heap.size w w') := Lib.hid (fun w => by rw [← hu]; exact tproto_any AP w (by omega))
  have HM : Hid (rightS ⟨al, pr, pa, po, ap⟩ = if pr < -1000 ∨ 1000 < pr then 1 else if K = 3 then 9 else if po < 0 ∨ 65535 < po then 10 else if bs AP ≠ [] ∧ u = false then 1 else 0) := Lib.hid (by
    unfold rightS
    simp only
    rw [← hpa, hc, ← hap, bs_length]
    have e : ((bs AP ≠ [] ∧ allS visI (bs AP) = false) ∨ 255 < AP.size) ↔ (bs AP ≠ [] ∧ u = false) := by
      rw [← hu, Bool.and_eq_false_iff, decide_eq_false_iff_not]
      constructor
      · rintro (⟨a, b⟩ | a)
        · exact ⟨a, .inr b⟩
        · refine ⟨fun h => ?_, .inl (by omega)⟩
          have : AP.size = 0 := by rw [← bs_length, h]; rfl
          omega
      · rintro ⟨a, b | b⟩
        · exact .inr (by omega)
        · exact .inl ⟨a, b⟩
    simp only [e])
  have q0 := lit_is AP []
  have hA : ruC ⟨al, pr, pa, po, ap⟩ = #[.bool al, .int .i64 pr, .string PA, .int .i64 po, .string AP] := by rw [← hPA, ← hAP]; rfl
  rw [hA]
  clear hA hPA hAP hpa hap hc hC hu h1 h2 hE z1
  go_enter Tryz.func14, Tryz.ntmps14
  go_upto_region 1 with fail
  obtain ⟨w2, hw2, hlt, hbel, c0, c1, c2, c3, c4⟩ := tru_box w al pr PA po AP
  rw [hw2]
  generalize hG : w.heap.size = G at *
  have HG := Lib.hid hG
  have HB2 := Lib.hid hbel
  clear hw2 hbel hG c0
  have H1 := Lib.hid c1
  have H3 := Lib.hid c3
  have H4 := Lib.hid c4
  go_wp2_with fail
  refine (HC.out _ HB2.out).mono ?_
  rintro e w3 ⟨rfl, hb⟩
  clear c1 c2 c3 c4 HC
  go_upto_region 2 with (refine go_st 63 (Blk.new _ _ _) infH rfl (shC_size _ _) (shC_one _ _) rfl rfl rfl rfl ?_)
  obtain ⟨w4, hw4, hb4, hl4⟩ := sh_put w3 N (decide (K < 2))
  rw [hw4]
  have hb24 := hb.trans (hl4.mono hb.size)
  have c1 := (hb24.cell (p := ⟨G, 1, none⟩) hlt).trans H1.out
  have c3 := (hb24.cell (p := ⟨G, 3, none⟩) hlt).trans H3.out
  have c4 := (hb24.cell (p := ⟨G, 4, none⟩) hlt).trans H4.out
  have HB := Lib.hid (HB2.out.trans (hb24.mono (Nat.le_of_lt hlt)))
  clear hb hb24 hw4 hb4 hl4 H1 H3 H4 HB2 hlt
  have hM := HM.out
  clear HM
  by_cases p1 : pr < -1000
  · have HQ := Lib.hid (hM.trans (if_pos (.inl p1)))
    clear hM q0
    go_wp2_with fail
    go_ret
    exact ⟨by rw [HQ.out]; rfl, by rw [HG.out]; exact HB.out⟩
  by_cases p2 : 1000 < pr
  · have HQ := Lib.hid (hM.trans (if_pos (.inr p2)))
    clear hM q0
    go_wp2_with fail
    go_ret
    exact ⟨by rw [HQ.out]; rfl, by rw [HG.out]; exact HB.out⟩
  rw [if_neg (by omega)] at hM
  by_cases p3 : K = 3
  · have HQ := Lib.hid (hM.trans (if_pos p3))
    rw [show (!decide (K = 3)) = false from by rw [decide_eq_true p3]; rfl]
    clear hM q0 p3 hK
    go_wp2_with fail
    go_ret
    exact ⟨by rw [HQ.out]; rfl, by rw [HG.out]; exact HB.out⟩
  rw [if_neg p3] at hM
  rw [show (!decide (K = 3)) = true from by rw [decide_eq_false p3]; rfl]
  clear p3 hK
  by_cases p4 : po < 0
  · have HQ := Lib.hid (hM.trans (if_pos (.inl p4)))
    clear hM q0
    go_wp2_with fail
    go_ret
    exact ⟨by rw [HQ.out]; rfl, by rw [HG.out]; exact HB.out⟩
  by_cases p5 : 65535 < po
  · have HQ := Lib.hid (hM.trans (if_pos (.inr p5)))
    clear hM q0
    go_wp2_with fail
    go_ret
    exact ⟨by rw [HQ.out]; rfl, by rw [HG.out]; exact HB.out⟩
  rw [if_neg (by omega)] at hM
  by_cases p6 : bs AP = []
  · obtain ⟨e1, e2⟩ := Nm.is_empty p6
    have e5 : (AP.toList != []) = false := by rw [bne, q0, decide_eq_true p6]; rfl
    rw [decide_eq_true p6] at q0
    have HQ := Lib.hid (hM.trans (if_neg (fun h => h.1 p6)))
    clear hM p6
    go_wp2_with fail
    go_ret
    exact ⟨by rw [HQ.out]; rfl, by rw [HG.out]; exact HB.out⟩
  obtain ⟨e1, e2⟩ := Nm.no_empty p6
  have e5 : (AP.toList != []) = true := by rw [bne, q0, decide_eq_false p6]; rfl
  rw [decide_eq_false p6] at q0
  cases u
  · have HQ := Lib.hid (hM.trans (if_pos ⟨p6, rfl⟩))
    clear hM p6
    go_wp2_with (go_at_call 36; refine (HV.out _).mono ?_; rintro e w5 ⟨rfl, hb5⟩; have HB5 := Lib.hid (HB.out.trans (hb5.mono (by have := HB.out.size; have := HG.out; omega))); clear hb5)
    go_ret
    exact ⟨by rw [HQ.out]; rfl, by rw [HG.out]; exact HB5.out⟩
  · have HQ := Lib.hid (hM.trans (if_neg (fun h => by cases h.2)))
    clear hM p6
    go_wp2_with (go_at_call 36; refine (HV.out _).mono ?_; rintro e w5 ⟨rfl, hb5⟩; have HB5 := Lib.hid (HB.out.trans (hb5.mono (by have := HB.out.size; have := HG.out; omega))); clear hb5)
    go_ret
    exact ⟨by rw [HQ.out]; rfl, by rw [HG.out]; exact HB5.out⟩
end Go.Proofs.YtlpondbcnfaggaaGreatDoor.Tr
