/-
  Contracts of package exts' Name, Protocols and Versions over this seat's translation.
-/
import Derived.Test.YtajmdchidmamcaaExRdT
import Derived.Test.YtajmdchidmamcaaExRdS
import Derived.Test.YtajmdchidmamcaaExRdI
import Derived.Test.YtajmdchidmamcaaExDel
import Derived.Test.YtajmdchidmamcaaAscAll
namespace Go.Proofs.Ytajmdchidmamcaa.Ex
open Go.RowKit Go.Proofs.Ytajmdchidmamcaa.Wd Go.Proofs.Ytajmdchidmamcaa.Be Go.Proofs.Ytajmdchidmamcaa.He Go.Proofs.Ytajmdchidmamcaa.Ro

theorem bs_str8 (x : List UInt8) : Asc.bs (str8 x) = x := by simp [Asc.bs, str8]

set_option maxHeartbeats 400000 in
theorem may_any (x : List UInt8) (w : World) : Calls Try.prog 32 #[.string (str8 x)] w fun e w' => e = .returned (.bool (mayS x)) ∧ Below w.heap.size w w' := by
  have HM := Lib.hid (show mayS x = (decide (x.length ≤ 255) && Asc.allS Asc.visI x) from rfl)
  have hsz : (str8 x).size = x.length := rfl
  have HB := Lib.hid (bs_str8 x)
  generalize str8 x = s at *
  by_cases h : x.length ≤ 255
  · have hd : (s.size : Int) ≤ 255 := by omega
    have HD := Lib.hid (show decide (x.length ≤ 255) = true by simpa using h)
    clear h
    go_enter Try.func32, Try.ntmps32
    go_wp2_with fail
    refine (Asc.visible_any s w).mono ?_
    rintro e w1 ⟨rfl, hb⟩
    go_wp2_with fail
    go_ret
    rw [HM.out, HD.out, HB.out]
    exact ⟨rfl, hb⟩
  · have hd : ¬ (s.size : Int) ≤ 255 := by omega
    have HD := Lib.hid (show decide (x.length ≤ 255) = false by simpa using h)
    clear h
    go_enter Try.func32, Try.ntmps32
    go_wp2_with fail
    go_ret
    rw [HM.out, HD.out]
    exact ⟨rfl, Below.refl _ _⟩

theorem SrcE.only {α : Type} {e : El α} {w w' : World} {A : Option Addr} {l : List α} (h : SrcE w e A l) (hb : Below w.heap.size w w') : SrcE w' e A l := h.below hb

set_option maxRecDepth 100000 in
set_option maxHeartbeats 1000000 in
theorem name_any (A : Option Addr) (n c : Nat) (xs : List UInt8) (w : World) (hs : Src w A n xs) (hn : n ≤ 140737488355320) :
    Calls Try.prog 10 #[.slice A n c] w fun e w' => e = .returned (.tuple #[.string (str8 (nameS xs).1), .int .i64 (nameS xs).2]) ∧ Below w.heap.size w w' := by
  have HR := Lib.hid (show nameS xs = if (readS typO 2 xs).2 then nameL ((readS typO 2 xs).1.filter hostB) else ([], 3) from rfl)
  go_enter Try.func10, Try.ntmps10
  go_wp2_with fail
  refine (rdT_any A n c 2 xs w hs hn (.inr rfl)).mono ?_
  rintro e w1 ⟨v, rfl, hOw, hl, hb⟩
  have HO := Lib.hid hOw
  clear hOw hs
  generalize readS typO 2 xs = p at *
  obtain ⟨l, b⟩ := p
  simp only at HR HO hl
  cases b with
  | false =>
    have HE := Lib.hid (show nameS xs = ([], 3) by rw [HR.out]; rfl)
    go_wp2_with fail
    go_ret2
    rw [HE.out]
    exact ⟨rfl, hb⟩
  | true =>
    have HE := Lib.hid (show nameS xs = nameL (l.filter hostB) by rw [HR.out]; rfl)
    clear HR
    have HGe := Lib.hid (OwnE.ge HO.out)
    go_wp2_with fail
    refine (del_any v w.heap.size l w1 HO.out hl).mono ?_
    rintro e w2 ⟨A2, c2, rfl, hsrc, hg⟩
    have HS := Lib.hid hsrc
    have HB2 := Lib.hid (hb.grown hg hb.size (fun j hj => HGe.out j hj))
    clear hsrc hg hb HO HGe
    generalize l.filter hostB = m at *
    rcases m with _ | ⟨x, _ | ⟨y, m⟩⟩
    · have HF := Lib.hid (show nameS xs = ([], 8) from HE.out)
      go_wp2_with fail
      go_ret2
      rw [HF.out]
      exact ⟨rfl, HB2.out⟩
    · obtain ⟨g, o, rfl, hg, hc⟩ := HS.out 0 x rfl
      have hc1 : w2.cell? ⟨g, o + 1, none⟩ = some (.string (str8 x.2)) := by have := hc 1 _ rfl; rwa [Nat.zero_mul, Nat.zero_add] at this
      have HL := Lib.hid (show nameL [x] = if mayS x.2 then (x.2, 0) else ([], 9) from rfl)
      clear hc HS
      go_wp2_with fail
      refine (may_any x.2 w2).mono ?_
      rintro e w3 ⟨rfl, hb3⟩
      have hd1 : w3.cell? ⟨g, o + 1, none⟩ = some (.string (str8 x.2)) := (hb3.cell (p := ⟨g, _, none⟩) hg).trans hc1
      have HB3 := Lib.hid (HB2.out.trans (hb3.mono HB2.out.size))
      clear hc1 hb3 HB2
      obtain ⟨b, hb⟩ : ∃ b, mayS x.2 = b := ⟨_, rfl⟩
      rw [hb] at HL ⊢
      clear hb
      cases b with
      | true =>
        have HF := Lib.hid (show nameS xs = (x.2, 0) by rw [HE.out, HL.out]; rfl)
        go_wp2_with fail
        go_ret2
        rw [HF.out]
        exact ⟨rfl, HB3.out⟩
      | false =>
        have HF := Lib.hid (show nameS xs = ([], 9) by rw [HE.out, HL.out]; rfl)
        go_wp2_with fail
        go_ret2
        rw [HF.out]
        exact ⟨rfl, HB3.out⟩
    · have HF := Lib.hid (show nameS xs = ([], 7) from HE.out)
      have h1 : (1 : Int) < (((x :: y :: m).length : Nat) : Int) := by simp; omega
      generalize (x :: y :: m).length = q at *
      go_wp2_with fail
      go_ret2
      rw [HF.out]
      exact ⟨rfl, HB2.out⟩

set_option maxRecDepth 100000 in
set_option maxHeartbeats 1000000 in
theorem vers_any (A : Option Addr) (n c : Nat) (xs : List UInt8) (w : World) (hs : Src w A n xs) (hn : n ≤ 140737488355320) :
    Calls Try.prog 14 #[.slice A n c] w fun e w' => ∃ v, e = .returned (.tuple #[v, .int .i64 (verS xs).2]) ∧ OwnE w' elI w.heap.size v (verS xs).1 ∧ (verS xs).1.length ≤ 65535 ∧ Below w.heap.size w w' := by
  have HR := Lib.hid (show verS xs = if (readS verO 1 xs).2 then ((readS verO 1 xs).1, 0) else ([], 3) from rfl)
  go_enter Try.func14, Try.ntmps14
  go_wp2_with fail
  refine (rdI_any A n c 1 xs w hs hn (.inl rfl)).mono ?_
  rintro e w1 ⟨v, rfl, hOw, hl, hb⟩
  have HO := Lib.hid hOw
  clear hOw hs
  generalize readS verO 1 xs = p at *
  obtain ⟨l, b⟩ := p
  simp only at HR HO hl
  cases b with
  | false =>
    have HE := Lib.hid (show verS xs = ([], 3) by rw [HR.out]; rfl)
    go_wp2_with fail
    go_ret2
    rw [HE.out]
    exact ⟨_, rfl, OwnE.nil _ _ _, Nat.zero_le _, hb⟩
  | true =>
    have HE := Lib.hid (show verS xs = (l, 0) by rw [HR.out]; rfl)
    go_wp2_with fail
    go_ret2
    rw [HE.out]
    exact ⟨_, rfl, HO.out, hl, hb⟩

set_option maxRecDepth 100000 in
set_option maxHeartbeats 1000000 in
theorem index_any (A : Option Addr) (n c : Nat) (l : List (List UInt8)) (w : World) (hs : SrcE w elS A l) (hn : l.length = n) (hm : n ≤ 65535) :
    Calls Try.prog 64 #[.slice A n c, .string .empty] w fun e w' => ∃ i : Int, e = .returned (.int .i64 i) ∧ Hid (0 ≤ i ↔ [] ∈ l) ∧ Hid (Below w.heap.size w w') := by
  have HS := Lib.hid hs
  have HN := Lib.hid hn
  clear hs hn
  go_enter Try.func64, Try.ntmps64
  go_wp2_with fail
  go_loopw [8] (fun i wr => ∃ k, k ≤ n ∧ i = .int .i64 (k : Int) ∧ Hid (∀ x ∈ l.take k, x ≠ []) ∧ Hid (Below w.heap.size w wr)) (fun i _ => n - (intOf i).toNat)
  case atStart => exact ⟨0, Nat.zero_le _, rfl, Lib.hid (by simp), Lib.hid (Below.refl _ _)⟩
  case round =>
    obtain ⟨k, hk, rfl, HA, HB⟩ := hrel
    by_cases hlt : k < n
    · have hki : (k : Int) < (n : Int) := by omega
      obtain ⟨x, hx⟩ : ∃ x, l[k]? = some x := ⟨_, List.getElem?_eq_getElem (by have := HN.out; omega)⟩
      obtain ⟨g, o, hA, hg, hc⟩ := HS.out k x hx
      have hc0 : wr.cell? ⟨g, o + k, none⟩ = some (.string (str8 x)) := (HB.out.cell (p := ⟨g, _, none⟩) hg).trans (by have := hc 0 _ rfl; simpa [elS] using this)
      rw [hA]
      have HX := Lib.hid hx
      clear hA hc hx
      by_cases h0 : x = []
      · have he : (str8 x).toList.isEmpty = true := by rw [h0, Lib.toList_data]; rfl
        have HC := Lib.hid (show [] ∈ l by rw [← h0]; exact List.mem_of_getElem? HX.out)
        clear h0
        go_wp2_with fail
        go_ret
        exact ⟨(k : Int), rfl, ⟨fun _ => HC.out, fun _ => by omega⟩, HB.out⟩
      · have he : (str8 x).toList.isEmpty = false := by
          rw [Lib.toList_data]
          cases x with
          | nil => exact absurd rfl h0
          | cons a x => rfl
        have H0 := Lib.hid h0
        clear h0
        go_wp2_with fail
        go_roundw
        case rel => exact ⟨k + 1, by omega, by go_num, Lib.hid (fun y hy => by
          rw [List.take_add_one, HX.out] at hy
          rcases List.mem_append.1 hy with hy | hy
          · exact HA.out y hy
          · simp at hy; subst hy; exact H0.out), HB⟩
        case measure => simp [intOf]; omega
    · obtain rfl : k = n := by omega
      have HC := Lib.hid (show ¬ [] ∈ l from fun hcn => HA.out [] (by rw [← HN.out, List.take_length]; exact hcn) rfl)
      go_wp2_with fail
      go_ret
      exact ⟨-1, rfl, ⟨fun h => by omega, fun h => absurd h HC.out⟩, HB.out⟩

set_option maxRecDepth 100000 in
set_option maxHeartbeats 1000000 in
theorem contains_any (A : Option Addr) (n c : Nat) (l : List (List UInt8)) (w : World) (hs : SrcE w elS A l) (hn : l.length = n) (hm : n ≤ 65535) :
    Calls Try.prog 39 #[.slice A n c, .string .empty] w fun e w' => e = .returned (.bool (l.contains [])) ∧ Hid (Below w.heap.size w w') := by
  go_enter Try.func39, Try.ntmps39
  go_wp2_with fail
  refine (index_any A n c l w hs hn hm).mono ?_
  rintro e w1 ⟨i, rfl, hi, hb⟩
  by_cases h : 0 ≤ i
  · have HC := Lib.hid (show l.contains [] = true by rw [List.contains_iff_mem]; exact hi.out.1 h)
    go_wp2_with fail
    go_ret
    rw [HC.out]
    exact ⟨rfl, hb⟩
  · have HC := Lib.hid (show l.contains [] = false by rw [Bool.eq_false_iff, Ne, List.contains_iff_mem]; exact fun hm => h (hi.out.2 hm))
    have hd : decide (0 ≤ i) = false := decide_eq_false h
    go_wp2_with fail
    go_ret
    rw [HC.out]
    exact ⟨rfl, hb⟩

set_option maxRecDepth 100000 in
set_option maxHeartbeats 1000000 in
theorem protos_any (A : Option Addr) (n c : Nat) (xs : List UInt8) (w : World) (hs : Src w A n xs) (hn : n ≤ 140737488355320) :
    Calls Try.prog 12 #[.slice A n c] w fun e w' => ∃ v, e = .returned (.tuple #[v, .int .i64 (protoS xs).2]) ∧ OwnE w' elS w.heap.size v (protoS xs).1 ∧ (protoS xs).1.length ≤ 65535 ∧ Below w.heap.size w w' := by
  have HR := Lib.hid (show protoS xs = if (readS proO 2 xs).2 && !(readS proO 2 xs).1.contains [] then ((readS proO 2 xs).1, 0) else ([], 3) from rfl)
  go_enter Try.func12, Try.ntmps12
  go_wp2_with fail
  refine (rdS_any A n c 2 xs w hs hn (.inr rfl)).mono ?_
  rintro e w1 ⟨v, rfl, hOw, hl, hb⟩
  have HO := Lib.hid hOw
  clear hs
  generalize readS proO 2 xs = p at *
  obtain ⟨l, b⟩ := p
  simp only at HR HO hl hOw
  obtain ⟨A2, c2, rfl, _, _, hsrc⟩ := hOw.src fineS
  have HS := Lib.hid hsrc
  clear hsrc hOw
  cases b with
  | false =>
    have HE := Lib.hid (show protoS xs = ([], 3) by rw [HR.out]; rfl)
    go_wp2_with fail
    go_ret2
    rw [HE.out]
    exact ⟨_, rfl, OwnE.nil _ _ _, Nat.zero_le _, hb⟩
  | true =>
    obtain ⟨m, hm⟩ : ∃ m, l.length = m := ⟨_, rfl⟩
    rw [hm] at hl ⊢
    have HM := Lib.hid hm
    clear hm
    go_wp2_with fail
    refine (contains_any A2 m c2 l w1 HS.out HM.out hl).mono ?_
    rintro e w2 ⟨rfl, hb2⟩
    have HO2 := Lib.hid (show OwnE w2 elS w.heap.size (.slice A2 m c2) l by have := HO.out.below hb2.out; rwa [HM.out] at this)
    have HB2 := Lib.hid (hb.trans (hb2.out.mono hb.size))
    obtain ⟨q, hq⟩ : ∃ q, l.contains [] = q := ⟨_, rfl⟩
    rw [hq] at HR ⊢
    clear hq hb2 hb HO HS
    cases q with
    | true =>
      have HE := Lib.hid (show protoS xs = ([], 3) by rw [HR.out]; rfl)
      go_wp2_with fail
      go_ret2
      rw [HE.out]
      exact ⟨_, rfl, OwnE.nil _ _ _, Nat.zero_le _, HB2.out⟩
    | false =>
      have HE := Lib.hid (show protoS xs = (l, 0) by rw [HR.out]; rfl)
      go_wp2_with fail
      go_ret2
      rw [HE.out]
      exact ⟨_, rfl, HO2.out, by show l.length ≤ _; rw [HM.out]; exact hl, HB2.out⟩
end Go.Proofs.Ytajmdchidmamcaa.Ex
