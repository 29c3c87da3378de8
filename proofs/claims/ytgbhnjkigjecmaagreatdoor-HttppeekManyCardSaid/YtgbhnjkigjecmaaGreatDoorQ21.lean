/-
  Where addr's contracts may be used, those over texts may, too: what the library's variables hold. Plain lemma.
-/
import Derived.Test.YtgbhnjkigjecmaaGreatDoorQ03
import Derived.Test.YtgbhnjkigjecmaaGreatDoorQ17
import Derived.Test.YtgbhnjkigjecmaaGreatDoorQ12
import Derived.Test.YtgbhnjkigjecmaaGreatDoorQ08
import Derived.Laws.Runes
import Derived.WalkMore
import Derived.Lib.OthersKept
import Derived.Lib.IndexAny
import Derived.Test.YtgbhnjkigjecmaaGreatDoorQ18
import Derived.IntWalk
import Derived.Deep.Cut
import Derived.Test.YtgbhnjkigjecmaaGreatDoorQ09
import Derived.Test.YtgbhnjkigjecmaaGreatDoorQ16
import Derived.OwnWalk
namespace Go.Proofs.YtgbhnjkigjecmaaGreatDoor.Au
open Go.RowKit

theorem tx_of {B : Nat} {w : World} (h : Ad.Env B w) : Tx.Env B w := ⟨h.max, h.tab, h.low, h.le⟩
end Go.Proofs.YtgbhnjkigjecmaaGreatDoor.Au

/-
  What package reqline's Print and Authority answer: a text, or none. Plain lemmas, no condition.
-/
namespace Go.Proofs.YtgbhnjkigjecmaaGreatDoor.Rl
open Go.RowKit Go.Proofs.YtgbhnjkigjecmaaGreatDoor.Wd Go.Proofs.YtgbhnjkigjecmaaGreatDoor.Asc Go.Proofs.YtgbhnjkigjecmaaGreatDoor.Tx Go.Proofs.YtgbhnjkigjecmaaGreatDoor.St

/-- what Print, and Authority, of both answer -/
def optT : Option (List UInt8) → Value
  | none => .tuple #[.string ⟨#[]⟩, .bool false]
  | some l => .tuple #[.string (str l), .bool true]
def optS : Option (List UInt8) → ByteArray
  | none => ⟨#[]⟩
  | some l => str l
theorem opt_str (o : Option (List UInt8)) : optT o = .tuple #[.string (optS o), .bool o.isSome] := by cases o <;> rfl
theorem str_cat (a b : List UInt8) : str a ++ str b = str (a ++ b) := by apply bs_inj; rw [bs_add, bs_str, bs_str, bs_str]
end Go.Proofs.YtgbhnjkigjecmaaGreatDoor.Rl

/-
  strings.IndexAny over this seat's translation, for a string of whatever bytes, and two signs of ASCII or more: the library's own contract asks for ASCII in both.
-/
namespace Go.Proofs.YtgbhnjkigjecmaaGreatDoor.Tx
open Go.RowKit Go.Proofs.YtgbhnjkigjecmaaGreatDoor.Wd Go.Proofs.YtgbhnjkigjecmaaGreatDoor.Asc Go.Lib

/-- a callee that leaves the world alone, in a region that has drawn before -/
theorem quietR {P : Program} {f : FuncId} {args : Array Value} {w : World} {q n : Nat} {v : Value} (h : Calls P f args (w.drewN (q + n)) fun e w' => e = .returned v ∧ w' = w.drewN (q + n)) :
    Calls P f args (w.drewN (q + n)) fun e w'' => e = .returned v ∧ ∃ m, w'' = w.drewN (q + m) := h.mono fun _ _ ⟨he, hm⟩ => ⟨he, n, hm⟩
def Asci (l : List UInt8) : Prop := ∀ c ∈ l, c.toNat < 128
/-- no byte past ASCII is found among signs of ASCII -/
theorem ib_wide {l : List UInt8} (h : Asci l) {c : UInt8} (hc : 128 ≤ c.toNat) : Lib.indexByte l c = -1 := ib_free (fun hm => by have := h c hm; omega)
theorem asci_cut {s : ByteArray} (h : Asci (bs s)) (a t : Nat) : Asci (bs (s.extract a t)) := fun c hc => by
  rw [bs_extract] at hc
  exact h c (List.mem_of_mem_drop (List.mem_of_mem_take hc))

set_option maxRecDepth 100000 in
set_option maxHeartbeats 4000000 in
/-- the wrong rune -/
theorem irune_err (s : ByteArray) (hs : Asci (bs s)) (w : World) :
    Calls Tryz.prog 100 #[.string s, .int .i32 65533] w fun e w' => e = .returned (.int .i64 (-1)) ∧ Below w.heap.size w w' := by
  have HS := Lib.hid hs
  clear hs
  go_enter Tryz.func100, Tryz.ntmps100
  go_wp2
  go_loopw [5, 6] (fun _ _ w' => ∃ pos, w' = w.iter s pos ∧ pos ≤ s.size) (fun _ _ w' => s.size - w'.iterPos w.heap.size)
  case atStart => exact ⟨0, rfl, Nat.zero_le _⟩
  case round =>
    obtain ⟨pos, rfl, hle⟩ := hrel
    by_cases hp : pos < s.size
    · have ha : (s[pos]'hp).toNat < 128 := HS.out _ (by rw [← bs_get s pos hp]; exact List.getElem_mem _)
      have hnx : ∀ ty, (Instr.next (.pointer (some ⟨w.heap.size, 0, none⟩)) true ty).run Tryz.prog (w.iter s pos) = _ := fun ty => run_next_ascii (P := Tryz.prog) w s pos ty hp ha
      have hb : ((((s[pos]'hp).toNat : Nat) : Int) == 65533) = false := by rw [beq_eq_false_iff_ne]; omega
      go_wp2
      go_roundw
      case rel => exact ⟨pos + 1, rfl, hp⟩
      case measure => simp; omega
    · have hnx := fun ty => run_next_end (P := Tryz.prog) w s pos ty hp
      go_wp2
      go_ret
      exact ⟨rfl, below_iter _ _ _⟩

set_option maxRecDepth 100000 in
set_option maxHeartbeats 8000000 in
/-- a rune past ASCII -/
theorem irune_wide (s : ByteArray) (hs : Asci (bs s)) (r : Int) (h : 128 ≤ r) (w : World) :
    Calls Tryz.prog 100 #[.string s, .int .i32 r] w fun e w' => e = .returned (.int .i64 (-1)) ∧ Below w.heap.size w w' := by
  by_cases he : r = 65533
  · subst he; exact irune_err s hs w
  have hb1 : (r == 65533) = false := by simpa using he
  have i1 : (0 : Int) ≤ r := by omega
  have i2 : ¬ r < 128 := by omega
  cases hv : Lib.validRune r with
  | false =>
    have HV := Lib.hid hv
    clear hv
    go_enter Tryz.func100, Tryz.ntmps100
    go_wp2_with (go_at_call 141; refine (Tryz.utf8_ValidRune _ _).mono ?_; rintro e w1 ⟨rfl, hw⟩; rw [hw, HV.out])
    go_ret
    exact ⟨rfl, Below.refl _ _⟩
  | true =>
    have hv2 : Utf8.valid r = true := by rw [validRune_eq]; exact hv
    obtain ⟨f1, f2, f3⟩ := encode_facts r hv2 h
    have hcv : ∀ w', (convert 21 9 (.int .i32 r)).run Tryz.prog w' = .ok (.string (Utf8.encode r)) w' := fun w' => run_convert_int_string w' 21 9 .i32 r (by kernel_rfl) Tryz.underlying9
    generalize Utf8.encode r = R at *
    have HV := Lib.hid hv
    have HS := Lib.hid hs
    clear hv hv2 hs he
    obtain ⟨n, hn⟩ : ∃ n, R.size = n + 1 := ⟨R.size - 1, by omega⟩
    have hlt : n < R.size := by omega
    have hi : (R.size : Int) - 1 = (n : Int) := by omega
    have hR : 128 ≤ (R[n]'hlt).toNat := by
      have := f3 (by omega)
      have e : R.size - 1 = n := by omega
      simpa only [e] using this
    have hn3 : n ≤ 3 := by omega
    have HR := Lib.hid hR
    clear f1 f2 f3 hn hR
    go_enter Tryz.func100, Tryz.ntmps100
    go_wp2_with (go_at_call 141; refine (Tryz.utf8_ValidRune _ _).mono ?_; rintro e w1 ⟨rfl, hw⟩; rw [hw, HV.out])
    go_step3
    go_wp2_with fail
    go_loopw [9, 10] (fun i f w' => i = .int .i64 n ∧ f = .int .i64 0 ∧ w = w') (fun _ _ _ => 0)
    case atStart => exact ⟨rfl, rfl, rfl⟩
    case round =>
      obtain ⟨rfl, rfl, rfl⟩ := hrel
      by_cases hp : n < s.size
      · have ha : (s[n]'hp).toNat < 128 := HS.out _ (by rw [← bs_get s n hp]; exact List.getElem_mem _)
        have hne : (((s[n]'hp).toNat : Int) != ((R[n]'hlt).toNat : Int)) = true := by have := HR.out; rw [bne_iff_ne]; omega
        have HK := Lib.hid (fun a b w' => show Calls Tryz.prog 140 #[.string (s.extract a b), .int .u8 ((R[n]'hlt).toNat : Int)] w' (fun e w'' => e = .returned (.int .i64 (-1)) ∧ w'' = w') from
          (Tryz.strings_IndexByte (s.extract a b) ((R[n]'hlt).toNat : Int) w').mono fun e w'' ⟨h1, h2⟩ => ⟨by rw [h1, show Lib.indexByte (s.extract a b).data.toList ((R[n]'hlt).toNat : Int).toNat.toUInt8 = -1 from ib_wide (asci_cut HS.out a b) (by simpa using HR.out)], h2⟩)
        clear hcv
        go_wp2_with fail
        go_step3
        go_wp2_with fail
        go_quiet (fail)
        go_wp2_with fail
        have hw1 : IntKind.i64.wrap ((n : Int) + 1) = (n : Int) + 1 := IntWalk.i64_in _ (by omega)
        have hw2 : ((n : Int) + 1).toNat = n + 1 := by omega
        have hw3 : (0 : Int) ≤ (n : Int) + 1 := by omega
        have hw4 : (n : Int) + 1 ≤ (s.size : Int) := by omega
        go_quiet (first | (go_at_call 140; exact quietR (HK.out _ _ _)))
        go_wp2_with fail
        rw [Exit.noGoto_ret]
        dsimp (zetaDelta := true) only [Exit.inBlock, Exit.then, Exit.noGoto]
        go_ret
        exact ⟨rfl, below_drewN' _ _⟩
      · clear hcv
        go_wp2_with fail
        rw [Exit.noGoto_ret]
        go_ret
        exact ⟨rfl, Below.refl _ _⟩

/-- where the range over the string is -/
def AnyAt (S C : ByteArray) (w w' : World) : Prop :=
  ∃ (pos : Nat) (w1 : World), w1 = w' ∧ w1.heap[w.heap.size]? = some (.stringIter S pos) ∧ pos ≤ S.size ∧ Below w.heap.size w w1 ∧ Lib.NoAny (bs S) (bs C) pos
theorem iterPos_is {w : World} {k : Nat} {S : ByteArray} {pos : Nat} (h : w.heap[k]? = some (.stringIter S pos)) : w.iterPos k = pos := by
  simp [World.iterPos, h]
theorem no_wide {S C : ByteArray} (hC : Asci (bs C)) {pos : Nat} (hp : pos < S.size) (ha : 128 ≤ (S[pos]'hp).toNat) (h : Lib.NoAny (bs S) (bs C) pos) : Lib.NoAny (bs S) (bs C) (pos + (Utf8.decode S pos).2) := by
  obtain ⟨hw1, hw2⟩ := wide_high S pos hp ha
  intro j b hj hb
  by_cases hlt : j < pos
  · exact h j b hlt hb
  · have hjs : j < S.size := by omega
    have h3 := hw2 (j - pos) (by omega)
    rw [show pos + (j - pos) = j by omega, get_eq S j hjs] at h3
    have hbj : b = S[j]'hjs := by
      rw [List.getElem?_eq_getElem (by rw [bs_length]; exact hjs), bs_get S j hjs] at hb
      exact (Option.some.inj hb).symm
    rw [Bool.eq_false_iff]
    intro hc
    have := hC b (List.contains_iff_mem.1 hc)
    rw [hbj] at this
    omega

set_option maxRecDepth 100000 in
set_option maxHeartbeats 4000000 in
theorem any_short (S C : ByteArray) (w : World) (h8 : S.size ≤ 8) (h2 : 2 ≤ C.size) (hC : Asci (bs C)) :
    Calls Tryz.prog 61 #[.string S, .string C] w fun e w' => e = .returned (.int .i64 (Lib.indexAny (bs S) (bs C))) ∧ Below w.heap.size w w' := by
  have HC := Lib.hid hC
  have hemp : C.toList.isEmpty = false := by
    rw [Lib.toList_data]
    cases h : C.data.toList with
    | nil => have : (bs C).length = 0 := by rw [bs, h]; rfl
             rw [bs_length] at this; omega
    | cons _ _ => rfl
  have hn1 : ((C.size : Int) == 1) = false := beq_eq_false_iff_ne.2 (by omega)
  have h8z : decide ((8 : Int) < (S.size : Int)) = false := decide_eq_false (by omega)
  clear hC
  go_enter Tryz.func61, Tryz.ntmps61
  go_wp2_with (go_at_call 101; refine (Tryz.strings_shouldUseASCIISet _ _).mono ?_; rintro e w1 ⟨rfl, hw⟩; rw [hw, h8z])
  go_loopw [9, 10] (fun _ _ w' => AnyAt S C w w') (fun _ _ w' => S.size - w'.iterPos w.heap.size)
  case atStart => exact ⟨0, _, rfl, World.iter_heap _ _ _, Nat.zero_le _, below_iter _ _ _, Lib.NoAny.zero _ _⟩
  case round =>
    obtain ⟨pos, w1, rfl, hk, hle, hbel, hno⟩ := hrel
    have HN := Lib.hid hno
    have HK := Lib.hid hk
    have HB := Lib.hid hbel
    clear hno hbel
    by_cases hp : pos < S.size
    · have HT := Lib.hid (fun p => iterAt_heap w1 w.heap.size S pos p hk)
      by_cases ha : (S[pos]'hp).toNat < 128
      · have hnx := fun ty => run_next_ascii_at (P := Tryz.prog) w1 w.heap.size S pos ty hk hp ha
        obtain ⟨x, hx⟩ : ∃ x, S[pos]'hp = x := ⟨_, rfl⟩
        have Hx : Hid ((bs S)[pos]? = some x) := Lib.hid (by rw [List.getElem?_eq_getElem (by rw [bs_length]; exact hp), bs_get S pos hp, hx])
        rw [hx] at hnx ha
        have hcon := Lib.contains_iff_indexByte (bs C) x
        have hback : ((x.toNat : Int)).toNat.toUInt8 = x := by simp
        have HX := Lib.hid hback
        clear hk hx hback
        cases hin : (bs C).contains x
        · rw [hin] at hcon
          have hlt : ¬ ((0 : Int) ≤ Lib.indexByte (bs C) x) := of_decide_eq_false hcon.symm
          have HI := Lib.hid hin
          clear hcon hin
          go_wp2_with (go_at_call 100; refine (Tryz.strings_IndexRune_ascii C _ _ (by omega) (by omega)).mono ?_; rintro e w2 ⟨rfl, hw⟩; rw [hw, HX.out, show C.data.toList = bs C from rfl])
          go_roundw
          case rel => exact ⟨pos + 1, _, rfl, HT.out _, by omega, below_iterAt HB.out (Nat.le_refl _) _ _, HN.out.succ Hx.out HI.out⟩
          case measure => rw [iterPos_is HK.out, iterPos_is (HT.out _)]; omega
        · rw [hin] at hcon
          have hge : (0 : Int) ≤ Lib.indexByte (bs C) x := of_decide_eq_true hcon.symm
          have HI := Lib.hid hin
          clear hcon hin
          go_wp2_with (go_at_call 100; refine (Tryz.strings_IndexRune_ascii C _ _ (by omega) (by omega)).mono ?_; rintro e w2 ⟨rfl, hw⟩; rw [hw, HX.out, show C.data.toList = bs C from rfl])
          go_ret
          exact ⟨by rw [Lib.indexAny_hit HN.out Hx.out HI.out]; rfl, below_iterAt HB.out (Nat.le_refl _) _ _⟩
      · have hnx := fun ty => run_next_any_at (P := Tryz.prog) w1 w.heap.size S pos ty hk hp
        have hd := (decode_high S pos hp (by omega)).1
        have hd1 := (decode_high S pos hp (by omega)).2
        have HNo := Lib.hid (no_wide HC.out hp (by omega) HN.out)
        have hwd := (wide_high S pos hp (by omega)).1
        have hr : (128 : Int) ≤ ((Utf8.decode S pos).1 : Int) := by omega
        have HW := Lib.hid (fun wx => irune_wide C HC.out _ hr wx)
        generalize ((Utf8.decode S pos).1 : Int) = r at *
        generalize (Utf8.decode S pos).2 = d at *
        have HT2 := Lib.hid (HT.out (pos + d))
        have HB2 := Lib.hid (below_iterAt HB.out (Nat.le_refl w.heap.size) S (pos + d))
        clear hk ha hd HT
        go_wp2_with fail
        refine (HW.out _).mono ?_
        rintro e w2 ⟨rfl, hb⟩
        have HT3 : Hid (w2.heap[w.heap.size]? = some (.stringIter S (pos + d))) := Lib.hid ((hb.block _ (by have := (Array.getElem?_eq_some_iff.1 HT2.out).1; exact this)).trans HT2.out)
        have HB3 := Lib.hid (HB2.out.trans (hb.mono HB2.out.size))
        clear hb
        go_wp2_with fail
        go_roundw
        case rel => exact ⟨pos + d, _, rfl, HT3.out, by omega, HB3.out, HNo.out⟩
        case measure => rw [iterPos_is HK.out, iterPos_is HT3.out]; omega
    · have hnx := fun ty => run_next_end_at (P := Tryz.prog) w1 w.heap.size S pos ty hk hp
      go_wp2
      go_ret
      exact ⟨by rw [Lib.indexAny_none (by rw [bs_length]; obtain rfl : pos = S.size := (by omega); exact HN.out)]; rfl, HB.out⟩

theorem set256 : (Tryz.prog.info? 119).map (fun i => (i.zero, i.size)) = some (some (.agg (Array.replicate 256 (.bool false))), 256) := by kernel_rfl
/-- strings.IndexAny, of two signs of ASCII or more -/
theorem any_any (S C : ByteArray) (w : World) (hS : S.size < 4294967281) (h2 : 2 ≤ C.size) (hz : C.size < 4294967281) (hC : Asci (bs C)) :
    Calls Tryz.prog 61 #[.string S, .string C] w fun e w' => e = .returned (.int .i64 (Lib.indexAny (bs S) (bs C))) ∧ Below w.heap.size w w' := by
  by_cases h8 : S.size ≤ 8
  · exact any_short S C w h8 h2 hC
  · refine (Tryz.strings_IndexAny_long (zero_of_info set256).1 S C w h2 (by omega) hS hz (fun j b hb => hC b (List.mem_of_getElem? hb))).mono fun e w' ⟨h1, h3⟩ => ⟨h1, ?_⟩
    rw [h3]
    exact ((Below.refl _ _).alloc (Nat.le_refl _) _).alloc (by simp) _
end Go.Proofs.YtgbhnjkigjecmaaGreatDoor.Tx

/-
  Contracts of package reqline's Authority and Form, and of hagioscoperef11's, over this seat's translation: they answer what authS and formS say.
-/
namespace Go.Proofs.YtgbhnjkigjecmaaGreatDoor.Rl
open Go.RowKit Go.Proofs.YtgbhnjkigjecmaaGreatDoor.Wd Go.Proofs.YtgbhnjkigjecmaaGreatDoor.Asc Go.Proofs.YtgbhnjkigjecmaaGreatDoor.Tx Go.Proofs.YtgbhnjkigjecmaaGreatDoor.St

theorem asci_ends : Asci (bs (⟨#[47, 63, 35]⟩ : ByteArray)) := by
  intro c hc
  have : c ∈ ends := hc
  simp only [ends, List.mem_cons, List.not_mem_nil, or_false] at this
  rcases this with rfl | rfl | rfl <;> decide
theorem same_http (l : List UInt8) (S : ByteArray) (hS : bs S = l) : sameS (S.extract 0 7) ⟨#[104, 116, 116, 112, 58, 47, 47]⟩ = decide ((l.take 7).map lowB = http) := by
  unfold sameS
  rw [bs_extract, hS, List.drop_zero, Nat.sub_zero]
  have e : (bs (⟨#[104, 116, 116, 112, 58, 47, 47]⟩ : ByteArray)).map lowB = http := by decide
  rw [e]
  by_cases h : (l.take 7).map lowB = http
  · rw [h]; simp
  · rw [decide_eq_false h]; simpa using h

set_option maxRecDepth 100000 in
set_option maxHeartbeats 4000000 in
theorem auth_any (l : List UInt8) (S : ByteArray) (hS : str l = S) (hl : S.size ≤ 1000000) (w : World) :
    Calls Tryz.prog 30 #[.string S] w fun e w' => e = .returned (optT (authS l)) ∧ Below w.heap.size w w' := by
  have hz : S.size = l.length := by rw [← hS, str_size]
  have hb : bs S = l := by rw [← hS, bs_str]
  by_cases h7 : l.length < 7
  · have HF := Lib.hid (auth_short h7)
    have hi : (S.size : Int) < 7 := by omega
    clear hz h7 hS hb
    go_enter Tryz.func30, Tryz.ntmps30
    go_wp2_with fail
    go_ret2
    rw [HF.out]
    exact ⟨rfl, Below.refl _ _⟩
  · have hi : ¬ (S.size : Int) < 7 := by omega
    have hi2 : (7 : Int) ≤ (S.size : Int) := by omega
    have hE := same_http l S hb
    have HSm := Lib.hid (fun w => same_any (S.extract 0 7) ⟨#[104, 116, 116, 112, 58, 47, 47]⟩ w)
    rw [hE] at HSm
    clear hE
    by_cases hh : (l.take 7).map lowB = http
    · rw [decide_eq_true hh] at HSm
      have HF := Lib.hid (auth_is (by omega) hh)
      have HA := Lib.hid (fun F w hF => any_any F ⟨#[47, 63, 35]⟩ w hF (by decide) (by decide) asci_ends)
      obtain ⟨F, hFe⟩ : ∃ F, S.extract 7 S.size = F := ⟨_, rfl⟩
      have hFb : bs F = l.drop 7 := by rw [← hFe, bs_extract, hb, List.take_of_length_le (by rw [List.length_drop]; omega)]
      have hFz : F.size ≤ 1000000 := by rw [← bs_length, hFb, List.length_drop]; omega
      have HFe := Lib.hid hFe
      have hw := any_while (bs F) ends
      have HFb := Lib.hid hFb
      clear hh hz h7 hS hb hFe hFb
      go_enter Tryz.func30, Tryz.ntmps30
      go_wp2_with (go_at_call 60; refine (HSm.out _).mono ?_; rintro e w1 ⟨rfl, hb1⟩)
      rw [HFe.out]
      refine (HA.out F w1 (by omega)).mono ?_
      rintro e w2 ⟨rfl, hb2⟩
      rw [show bs (⟨#[47, 63, 35]⟩ : ByteArray) = ends from rfl]
      have HB2 := Lib.hid (hb1.trans (hb2.mono hb1.size))
      clear hb1 hb2
      rcases hw with ⟨h1, h2⟩ | ⟨k, h1, h2, h3⟩
      · rw [h1]
        have HR : Hid (authS l = some (bs F)) := Lib.hid (by rw [HF.out, ← HFb.out]; exact congrArg some h2)
        have hFz2 : F.size ≤ 140737488355328 := by omega
        clear h1 h2 HA HSm
        go_wp2_with (go_at_call 24; refine (clone_any F _ hFz2).mono ?_; rintro e w3 ⟨rfl, hb3⟩)
        go_ret2
        rw [HR.out]
        exact ⟨rfl, HB2.out.trans (hb3.mono HB2.out.size)⟩
      · rw [h1]
        rw [bs_length] at h2
        have HR : Hid (authS l = some (bs (F.extract 0 k))) := Lib.hid (by
          rw [HF.out, ← HFb.out, bs_extract, List.drop_zero, Nat.sub_zero, ← h3]; rfl)
        have hk1 : (k : Int) ≤ (F.size : Int) := by omega
        have hk2 : (0 : Int) ≤ (k : Int) := by omega
        obtain ⟨X, hX⟩ : ∃ X, F.extract 0 k = X := ⟨_, rfl⟩
        have hXz : X.size ≤ 140737488355328 := by
          rw [← hX, ← bs_length, bs_extract, List.length_take]
          omega
        have HX := Lib.hid hX
        rw [hX] at HR
        clear h1 h3 HA HSm hX
        go_upto_region 7 with fail
        rw [HX.out]
        go_wp2_with (go_at_call 24; refine (clone_any X _ hXz).mono ?_; rintro e w3 ⟨rfl, hb3⟩)
        go_ret2
        rw [HR.out]
        exact ⟨rfl, HB2.out.trans (hb3.mono HB2.out.size)⟩
    · rw [decide_eq_false hh] at HSm
      have HF := Lib.hid (auth_not hh)
      clear hh hz h7 hS hb
      go_enter Tryz.func30, Tryz.ntmps30
      go_wp2_with (go_at_call 60; refine (HSm.out _).mono ?_; rintro e w1 ⟨rfl, hb1⟩)
      go_ret2
      rw [HF.out]
      exact ⟨rfl, hb1⟩
end Go.Proofs.YtgbhnjkigjecmaaGreatDoor.Rl

/-
  Contracts of package reqline's Form, and of hagioscoperef11's Authority and Form, over this seat's translation: they answer what formS and authS say.
-/
namespace Go.Proofs.YtgbhnjkigjecmaaGreatDoor.Rl
open Go.RowKit Go.Proofs.YtgbhnjkigjecmaaGreatDoor.Wd Go.Proofs.YtgbhnjkigjecmaaGreatDoor.Asc Go.Proofs.YtgbhnjkigjecmaaGreatDoor.Tx Go.Proofs.YtgbhnjkigjecmaaGreatDoor.St

theorem prefix_is (b : List UInt8) : Lib.hasPrefix b [47] = decide (b.head? = some 47) := by
  cases b with
  | nil => rfl
  | cons c l =>
    by_cases h : c = 47
    · subst h; simp [Lib.hasPrefix]
    · have h' : ((47 : UInt8) == c) = false := by rw [beq_eq_false_iff_ne]; exact fun e => h e.symm
      simp [Lib.hasPrefix, List.isPrefixOf, h, h']
def isS (o : Option (List UInt8)) : Value × Bool := match o with | none => (.string ⟨#[]⟩, false) | some l => (.string (str l), true)
theorem opt_is (o : Option (List UInt8)) : optT o = .tuple #[(isS o).1, .bool o.isSome] := by cases o <;> rfl

set_option maxRecDepth 100000 in
set_option maxHeartbeats 4000000 in
theorem form_any (r : Rq) (h2 : r.targ.length ≤ 1000000) (w : World) :
    Calls Tryz.prog 29 #[.agg (rqC r)] w fun e w' => e = .returned (.int .i64 (formS r)) ∧ Below w.heap.size w w' := by
  obtain ⟨k, hk⟩ : ∃ k, r.minor = k := ⟨_, rfl⟩
  have hC : rqC r = #[.string (str r.meth), .string (str r.targ), .int .i64 k] := by rw [← hk]; rfl
  obtain ⟨A, hA⟩ : ∃ A, str r.meth = A := ⟨_, rfl⟩
  obtain ⟨B, hB⟩ : ∃ B, str r.targ = B := ⟨_, rfl⟩
  rw [hC, hA, hB]
  have hf : formS r = if r.meth = cnct then 4 else if r.targ = [42] then 3 else if r.targ.head? = some 47 then 1 else if (authS r.targ).isSome then 2 else 0 := rfl
  have hBb : bs B = r.targ := by rw [← hB, bs_str]
  have hBz : B.size ≤ 1000000 := by rw [← hB, str_size]; exact h2
  have e1 : (A.toList == [67, 79, 78, 78, 69, 67, 84]) = decide (r.meth = cnct) := by rw [← hA, lit_beq]; rfl
  have e2 : (B.toList == [42]) = decide (r.targ = [42]) := by rw [← hB, lit_beq]
  have hp : ∀ w, Calls Tryz.prog 59 #[.string B, .string ⟨#[47]⟩] w fun e w' => e = .returned (.bool (decide (r.targ.head? = some 47))) ∧ w = w' := fun w => by
    have h := prefix_any B ⟨#[47]⟩ w
    rw [show bs (⟨#[47]⟩ : ByteArray) = [47] from rfl, prefix_is, hBb] at h
    exact h
  have ha : ∀ w, Calls Tryz.prog 30 #[.string B] w fun e w' => e = .returned (.tuple #[(isS (authS r.targ)).1, .bool (authS r.targ).isSome]) ∧ Below w.heap.size w w' := fun w => by
    rw [← opt_is]; exact auth_any r.targ B hB hBz w
  have HP := Lib.hid hp
  have HA := Lib.hid ha
  have HF := Lib.hid hf
  generalize formS r = F at *
  clear hk hC hA hBb hBz hp ha hf hB
  generalize (isS (authS r.targ)).1 = x at *
  by_cases c1 : r.meth = cnct
  · rw [if_pos c1] at HF
    rw [decide_eq_true c1] at e1
    clear e2 HP HA c1
    go_enter Tryz.func29, Tryz.ntmps29
    go_wp2_with fail
    go_ret
    exact ⟨by rw [HF.out]; rfl, (Below.refl _ _).alloc (Nat.le_refl _) _⟩
  · rw [if_neg c1] at HF
    rw [decide_eq_false c1] at e1
    by_cases c2 : r.targ = [42]
    · rw [if_pos c2] at HF
      rw [decide_eq_true c2] at e2
      clear HP HA c1 c2
      go_enter Tryz.func29, Tryz.ntmps29
      go_wp2_with fail
      go_ret
      exact ⟨by rw [HF.out]; rfl, (Below.refl _ _).alloc (Nat.le_refl _) _⟩
    · rw [if_neg c2] at HF
      rw [decide_eq_false c2] at e2
      by_cases c3 : r.targ.head? = some 47
      · rw [if_pos c3] at HF
        rw [decide_eq_true c3] at HP
        clear HA c1 c2 c3
        go_enter Tryz.func29, Tryz.ntmps29
        go_wp2_with (go_at_call 59; refine (HP.out _).mono ?_; rintro e w1 ⟨rfl, rfl⟩)
        go_ret
        exact ⟨by rw [HF.out]; rfl, (Below.refl _ _).alloc (Nat.le_refl _) _⟩
      · rw [if_neg c3] at HF
        rw [decide_eq_false c3] at HP
        cases hs : (authS r.targ).isSome with
        | true =>
          rw [hs, if_pos rfl] at HF
          rw [hs] at HA
          clear c1 c2 c3 hs
          go_enter Tryz.func29, Tryz.ntmps29
          go_wp2_with (first
            | (go_at_call 59; refine (HP.out _).mono ?_; rintro e w1 ⟨rfl, rfl⟩)
            | (go_at_call 30; refine (HA.out _).mono ?_; rintro e w2 ⟨rfl, hb⟩))
          go_ret
          exact ⟨by rw [HF.out]; rfl, ((Below.refl _ _).alloc (Nat.le_refl _) _).trans (hb.mono (by simp))⟩
        | false =>
          rw [hs, if_neg (by simp)] at HF
          rw [hs] at HA
          clear c1 c2 c3 hs
          go_enter Tryz.func29, Tryz.ntmps29
          go_wp2_with (first
            | (go_at_call 59; refine (HP.out _).mono ?_; rintro e w1 ⟨rfl, rfl⟩)
            | (go_at_call 30; refine (HA.out _).mono ?_; rintro e w2 ⟨rfl, hb⟩))
          go_ret
          exact ⟨by rw [HF.out]; rfl, ((Below.refl _ _).alloc (Nat.le_refl _) _).trans (hb.mono (by simp))⟩
end Go.Proofs.YtgbhnjkigjecmaaGreatDoor.Rl

/-
  What the functions of package authority and hagioscoperef13 answer, as values; a byte in a text, a sign ahead of one. Plain lemmas, and three contracts of package strings. No condition.
-/
namespace Go.Proofs.YtgbhnjkigjecmaaGreatDoor.Au
open Go.RowKit Go.Proofs.YtgbhnjkigjecmaaGreatDoor.Wd Go.Proofs.YtgbhnjkigjecmaaGreatDoor.Asc Go.Proofs.YtgbhnjkigjecmaaGreatDoor.Tx

def resT (r : Res) : Value := .tuple #[.string (str r.1), .int .i64 r.2.1, .int .i64 r.2.2]
def ResP (r : Res) (w : World) (e : Ending) (w' : World) : Prop := e = .returned (resT r) ∧ Below w.heap.size w w'
/-- the host and what is behind it, of a text that may be parsed -/
def spS (l : List UInt8) : (List UInt8 × List UInt8) × Int := if l.head? = some 91 then bracketS (l.drop 1) else ((l.takeWhile (· != 58), l.dropWhile (· != 58)), 0)
def brT (x : (List UInt8 × List UInt8) × Int) : Value := .tuple #[.string (str x.1.1), .string (str x.1.2), .bool (decide (x.2 = 0))]
def hoT (x : (List UInt8 × List UInt8) × Int) : Value := .tuple #[.string (str x.1.1), .string (str x.1.2), .int .i64 x.2]

theorem host_nil : hostS [] = (([], []), 8) := rfl
theorem host_colon {l : List UInt8} (h : l.head? = some 58) : hostS l = (([], []), 8) := if_pos (.inr h)
theorem host_form {l : List UInt8} (h0 : l ≠ []) (h1 : l.head? ≠ some 58) (h : allS visI l = false ∨ (64 : UInt8) ∈ l) : hostS l = (([], []), 3) := by
  unfold hostS
  rw [if_neg (by rintro (h | h) <;> contradiction), if_pos h]
theorem host_sp {l : List UInt8} (h0 : l ≠ []) (h1 : l.head? ≠ some 58) (h2 : allS visI l = true) (h3 : (64 : UInt8) ∉ l) : hostS l = spS l := by
  unfold hostS
  rw [if_neg (by rintro (h | h) <;> contradiction), if_neg (by rw [h2]; simpa using h3)]
  rfl
theorem sp_brack {l : List UInt8} (h : l.head? = some 91) : spS l = bracketS (l.drop 1) := if_pos h
theorem sp_plain {l : List UInt8} (h : l.head? ≠ some 91) : spS l = ((l.takeWhile (· != 58), l.dropWhile (· != 58)), 0) := if_neg h
theorem brack_free {m : List UInt8} (h : (93 : UInt8) ∉ m) : bracketS m = (([], []), 3) := if_neg h
theorem brack_yes {i r a : List UInt8} (h : (93 : UInt8) ∉ i) (h2 : (58 : UInt8) ∈ i) (h3 : Ad.parseS i = some a) : bracketS (i ++ 93 :: r) = ((Ad.ctext a, r), 0) := by
  unfold bracketS
  rw [if_pos (by simp), (while_at h).1, (while_at h).2, h3]
  dsimp only
  rw [if_pos h2]
  rfl
theorem brack_dot {i r : List UInt8} (h : (93 : UInt8) ∉ i) (h2 : (58 : UInt8) ∉ i) : bracketS (i ++ 93 :: r) = (([], []), 3) := by
  unfold bracketS
  rw [if_pos (by simp), (while_at h).1, (while_at h).2]
  cases Ad.parseS i with
  | none => rfl
  | some a => dsimp only; rw [if_neg h2]
theorem brack_no {i r : List UInt8} (h : (93 : UInt8) ∉ i) (h3 : Ad.parseS i = none) : bracketS (i ++ 93 :: r) = (([], []), 3) := by
  unfold bracketS
  rw [if_pos (by simp), (while_at h).1, (while_at h).2, h3]
theorem parse_host {l : List UInt8} {e : Int} (h : hostS l = (([], []), e)) (he : e ≠ 0) : parseS l = ([], 0, e) := by
  unfold parseS
  rw [h, if_pos he]
theorem port_nil : portS [] = (0, 0) := rfl
theorem port_form {c : UInt8} {d : List UInt8} (h : c ≠ 58) : portS (c :: d) = (0, 3) := by rw [portS_cons, if_pos h]
theorem port_none_num {d : List UInt8} (h : numS d 65535 = none) : portS (58 :: d) = (0, 10) := by rw [portS_cons, if_neg (by simp), h]
theorem port_zero {d : List UInt8} (h : numS d 65535 = some 0) : portS (58 :: d) = (0, 10) := by
  rw [portS_cons, if_neg (by simp), h]
  rfl
theorem port_some {d : List UInt8} {n : Int} (h : numS d 65535 = some n) (h0 : n ≠ 0) : portS (58 :: d) = (n, 0) := by
  rw [portS_cons, if_neg (by simp), h]
  dsimp only
  rw [if_neg h0]

theorem idx_mem (l : List UInt8) (c : UInt8) : decide (0 ≤ Lib.indexByte l c) = decide (c ∈ l) := by
  by_cases h : c ∈ l
  · rw [decide_eq_true h, decide_eq_true (Tx.ib_mem h)]
  · rw [decide_eq_false h, Tx.ib_free h]; rfl
theorem pre_one (c : UInt8) (b : List UInt8) : Lib.hasPrefix b [c] = decide (b.head? = some c) := by
  cases b with
  | nil => rfl
  | cons x l =>
    by_cases h : x = c
    · subst h; simp [Lib.hasPrefix]
    · have h' : (c == x) = false := by rw [beq_eq_false_iff_ne]; exact fun e => h e.symm
      simp [Lib.hasPrefix, List.isPrefixOf, h, h']
theorem has_any (S : ByteArray) (c : UInt8) (w : World) :
    Calls Tryz.prog 62 #[.string S, .string ⟨#[c]⟩] w fun e w' => e = .returned (.bool (decide (c ∈ bs S))) ∧ w = w' := by
  rw [← idx_mem]
  exact (Tryz.strings_Contains_one S c w).mono fun _ _ ⟨h1, h2⟩ => ⟨h1, h2.symm⟩
theorem begins_any (S : ByteArray) (c : UInt8) (w : World) :
    Calls Tryz.prog 59 #[.string S, .string ⟨#[c]⟩] w fun e w' => e = .returned (.bool (decide ((bs S).head? = some c))) ∧ w = w' := by
  have h := Tx.prefix_any S ⟨#[c]⟩ w
  rw [show bs (⟨#[c]⟩ : ByteArray) = [c] from rfl, pre_one] at h
  exact h
theorem behind_any (S : ByteArray) (c : UInt8) (w : World) :
    Calls Tryz.prog 104 #[.string S, .string ⟨#[c]⟩] w fun e w' => e = .returned (.tuple #[.string (if (bs S).head? = some c then str ((bs S).drop 1) else S), .bool (decide ((bs S).head? = some c))]) ∧ w = w' := by
  refine (Tryz.strings_CutPrefix S ⟨#[c]⟩ w).mono fun _ _ ⟨h1, h2⟩ => ⟨?_, h2.symm⟩
  have e1 : Lib.hasPrefix S.data.toList (⟨#[c]⟩ : ByteArray).data.toList = decide ((bs S).head? = some c) := pre_one c (bs S)
  have e2 : Lib.trimPrefix S.data.toList (⟨#[c]⟩ : ByteArray).data.toList = if (bs S).head? = some c then (bs S).drop 1 else bs S := by
    unfold Lib.trimPrefix
    rw [e1]
    by_cases h : (bs S).head? = some c
    · rw [decide_eq_true h, if_pos rfl, if_pos h]; rfl
    · rw [decide_eq_false h, if_neg (by simp), if_neg h]; rfl
  rw [h1, e1, e2]
  by_cases h : (bs S).head? = some c
  · rw [if_pos h, if_pos h]
  · rw [if_neg h, if_neg h, show (⟨(bs S).toArray⟩ : ByteArray) = S from Tx.str_bs S]
end Go.Proofs.YtgbhnjkigjecmaaGreatDoor.Au

/-
  Contracts of hagioscoperef13's has and until over this seat's translation; where a text is cut ahead of a byte.
-/
namespace Go.Proofs.YtgbhnjkigjecmaaGreatDoor.Au
open Go.RowKit Go.Proofs.YtgbhnjkigjecmaaGreatDoor.Wd Go.Proofs.YtgbhnjkigjecmaaGreatDoor.Asc Go.Proofs.YtgbhnjkigjecmaaGreatDoor.Tx Go.Proofs.YtgbhnjkigjecmaaGreatDoor.St

theorem byte_eq (a c : UInt8) : ((a.toNat : Int) == (c.toNat : Int)) = decide (a = c) := by
  by_cases h : a = c
  · subst h; simp
  · have : a.toNat ≠ c.toNat := fun e => h (UInt8.toNat_inj.1 e)
    rw [decide_eq_false h, beq_eq_false_iff_ne]
    omega
theorem not_next {s : ByteArray} {c : UInt8} {k : Nat} (h : k < s.size) (ht : c ∉ (bs s).take k) (hc : s[k]'h ≠ c) : c ∉ (bs s).take (k + 1) := by
  rw [bs_take s k h, List.mem_append, List.mem_singleton]
  rintro (h1 | h1)
  · exact ht h1
  · exact hc h1.symm
theorem in_at {s : ByteArray} {c : UInt8} {k : Nat} (h : k < s.size) (hc : s[k]'h = c) : c ∈ bs s := by
  have h1 : s[k]'h ∈ (bs s).take (k + 1) := by rw [bs_take s k h]; simp
  rw [hc] at h1
  exact List.mem_of_mem_take h1
theorem none_at {s : ByteArray} {c : UInt8} {k : Nat} (h : ¬ k < s.size) (ht : c ∉ (bs s).take k) : c ∉ bs s := by
  rwa [List.take_of_length_le (by rw [bs_length]; omega)] at ht
/-- where a text is cut ahead of a byte -/
theorem cut_here {s : ByteArray} {c : UInt8} {k : Nat} (hk : k ≤ s.size) (ht : c ∉ (bs s).take k) (hc : ∀ h : k < s.size, s[k]'h = c) :
    str ((bs s).takeWhile (· != c)) = s.extract 0 k ∧ str ((bs s).dropWhile (· != c)) = s.extract k s.size := by
  have key : (bs s).takeWhile (· != c) = (bs s).take k ∧ (bs s).dropWhile (· != c) = (bs s).drop k := by
    by_cases h : k < s.size
    · have e : bs s = (bs s).take k ++ c :: (bs s).drop (k + 1) := by
        conv => lhs; rw [← List.take_append_drop k (bs s), bs_drop s k h, hc h]
      have e2 : (bs s).drop k = c :: (bs s).drop (k + 1) := by rw [bs_drop s k h, hc h]
      have h1 := while_at (b := (bs s).drop (k + 1)) ht
      rw [← e] at h1
      rw [h1.1, h1.2, e2]
      exact ⟨rfl, rfl⟩
    · have e : (bs s).take k = bs s := List.take_of_length_le (by rw [bs_length]; omega)
      have e2 : (bs s).drop k = [] := List.drop_of_length_le (by rw [bs_length]; omega)
      rw [e] at ht
      rw [(while_free ht).1, (while_free ht).2, e, e2]
      exact ⟨rfl, rfl⟩
  rw [key.1, key.2]
  constructor
  · apply bs_inj; rw [bs_str, bs_extract, List.drop_zero, Nat.sub_zero]
  · apply bs_inj; rw [bs_str, bs_extract, List.take_of_length_le (by rw [List.length_drop, bs_length]; omega)]

theorem rhas_any (s : ByteArray) (c : UInt8) (w : World) (hs : s.size ≤ maxLen) :
    Calls Tryz.prog 151 #[.string s, .int .u8 (c.toNat : Int)] w fun e w' => e = .returned (.bool (decide (c ∈ bs s))) ∧ w = w' := by
  unfold maxLen at hs
  go_enter Tryz.func151, Tryz.ntmps151
  go_wp2
  go_loop [5] (fun x => ∃ k : Nat, x = .int .i64 k ∧ k ≤ s.size ∧ c ∉ (bs s).take k) (fun x => s.size - (intOf x).toNat)
  case atStart => exact ⟨0, rfl, Nat.zero_le _, by simp⟩
  case round =>
    obtain ⟨k, rfl, hk, ht⟩ := hrel
    have HT := Lib.hid ht
    clear ht
    by_cases hlt : k < s.size
    · have hb := byte_eq (s[k]'hlt) c
      by_cases c1 : s[k]'hlt = c
      · rw [decide_eq_true c1] at hb
        have HI := Lib.hid (decide_eq_true (in_at hlt c1))
        clear c1
        go_wp2
        go_ret
        exact ⟨ret_b HI.out.symm, rfl⟩
      · rw [decide_eq_false c1] at hb
        have HN := Lib.hid (not_next hlt HT.out c1)
        clear c1
        go_wp2
        go_round
        case rel => exact ⟨k + 1, by go_num, hlt, HN.out⟩
        case measure => simp [intOf]; omega
    · go_wp2
      go_ret
      exact ⟨ret_b (decide_eq_false (none_at hlt HT.out)).symm, rfl⟩

def untT (s : ByteArray) (c : UInt8) : Value := .tuple #[.string (str ((bs s).takeWhile (· != c))), .string (str ((bs s).dropWhile (· != c)))]
set_option maxHeartbeats 1000000 in
theorem until_any (s : ByteArray) (c : UInt8) (w : World) (hs : s.size ≤ maxLen) :
    Calls Tryz.prog 152 #[.string s, .int .u8 (c.toNat : Int)] w fun e w' => e = .returned (untT s c) ∧ Below w.heap.size w w' := by
  unfold maxLen at hs
  go_enter Tryz.func152, Tryz.ntmps152
  go_wp2
  go_loop [6] (fun x => ∃ k : Nat, x = .int .i64 k ∧ k ≤ s.size ∧ c ∉ (bs s).take k) (fun x => s.size - (intOf x).toNat)
  case atStart => exact ⟨0, rfl, Nat.zero_le _, by simp⟩
  case round =>
    obtain ⟨k, rfl, hk, ht⟩ := hrel
    have HT := Lib.hid ht
    clear ht
    have hk1 : (k : Int) ≤ (s.size : Int) := by omega
    have hk0 : (0 : Int) ≤ (k : Int) := by omega
    by_cases hlt : k < s.size
    · have hb := byte_eq (s[k]'hlt) c
      by_cases c1 : s[k]'hlt = c
      · rw [decide_eq_true c1] at hb
        have hn : (((s[k]'hlt).toNat : Int) != (c.toNat : Int)) = false := by rw [bne, hb]; rfl
        have HI := Lib.hid (cut_here hk HT.out (fun _ => c1))
        clear c1
        go_wp2
        go_quiet (fail)
        all_goals (
          go_wp2_with fail
          go_ret2
          unfold untT
          rw [HI.out.1, HI.out.2]
          exact ⟨rfl, below_drewN' _ _⟩)
      · rw [decide_eq_false c1] at hb
        have hn : (((s[k]'hlt).toNat : Int) != (c.toNat : Int)) = true := by rw [bne, hb]; rfl
        have HN := Lib.hid (not_next hlt HT.out c1)
        clear c1
        go_wp2
        go_round
        case rel => exact ⟨k + 1, by go_num, hlt, HN.out⟩
        case measure => simp [intOf]; omega
    · have HI := Lib.hid (cut_here hk HT.out (fun h => absurd h hlt))
      go_wp2
      go_quiet (fail)
      all_goals (
        go_wp2_with fail
        go_ret2
        unfold untT
        rw [HI.out.1, HI.out.2]
        exact ⟨rfl, below_drewN' _ _⟩)
end Go.Proofs.YtgbhnjkigjecmaaGreatDoor.Au

/-
  A text that is empty, its first byte; an address in a block of its own; how long a rest is. Plain lemmas, no condition.
-/
namespace Go.Proofs.YtgbhnjkigjecmaaGreatDoor.Au
open Go.RowKit Go.Proofs.YtgbhnjkigjecmaaGreatDoor.Wd Go.Proofs.YtgbhnjkigjecmaaGreatDoor.Asc Go.Proofs.YtgbhnjkigjecmaaGreatDoor.Tx Go.Proofs.YtgbhnjkigjecmaaGreatDoor.St

theorem empty_is (S : ByteArray) : (S.toList == []) = decide (bs S = []) := by
  have h := Rl.lit_beq (bs S) []
  rwa [str_bs] at h
theorem head_is (s : ByteArray) (h : 0 < s.size) : (bs s).head? = some (s[0]'h) := by rw [List.head?_eq_getElem?]; exact first_is s h
theorem head_dec {s : ByteArray} {h : 0 < s.size} (k : UInt8) : (((s[0]'h).toNat : Int) == (k.toNat : Int)) = decide ((bs s).head? = some k) := by
  rw [byte_eq, head_is s h]
  by_cases e : s[0]'h = k
  · simp [e]
  · simp [e]
/-- an address in a block of its own -/
theorem adr_new (w : World) (V : List UInt8) :
    Blk ((w.alloc (.cells #[Value.int .u8 0, Value.int .u8 0, Value.int .u8 0, Value.int .u8 0, Value.int .u8 0, Value.int .u8 0, Value.int .u8 0, Value.int .u8 0, Value.int .u8 0, Value.int .u8 0, Value.int .u8 0, Value.int .u8 0, Value.int .u8 0, Value.int .u8 0, Value.int .u8 0, Value.int .u8 0] 72)).setRow w.heap.size (Ad.cA V)) w.heap.size 72 (Ad.cA V) ∧
    Below w.heap.size w ((w.alloc (.cells #[Value.int .u8 0, Value.int .u8 0, Value.int .u8 0, Value.int .u8 0, Value.int .u8 0, Value.int .u8 0, Value.int .u8 0, Value.int .u8 0, Value.int .u8 0, Value.int .u8 0, Value.int .u8 0, Value.int .u8 0, Value.int .u8 0, Value.int .u8 0, Value.int .u8 0, Value.int .u8 0] 72)).setRow w.heap.size (Ad.cA V)) :=
  ⟨setRow_blk (Blk.new _ _ _), setRow_below ((Below.refl _ _).alloc (Nat.le_refl _) _) (Blk.new _ _ _) (Nat.le_refl _) _⟩
theorem range_adr {w : World} {g t : Nat} {a : List UInt8} (h : Blk w g t (Ad.cA a)) : w.rangeAt g 0 (cellsOf a) := fun j v hv => by
  rw [Nat.zero_add, h.cell]
  simpa using hv

theorem rest_len (l : List UInt8) : (hostS l).1.2.length ≤ l.length := by
  have h1 := fun m : List UInt8 => (List.dropWhile_suffix (l := m) (fun x : UInt8 => x != 93)).length_le
  have h2 := (List.dropWhile_suffix (l := l) (fun x : UInt8 => x != 58)).length_le
  unfold hostS bracketS
  split
  · exact Nat.zero_le _
  · split
    · exact Nat.zero_le _
    · split
      · split
        · split
          · split
            · have := h1 (l.drop 1)
              simp only [List.length_drop] at this ⊢
              omega
            · exact Nat.zero_le _
          · exact Nat.zero_le _
        · exact Nat.zero_le _
      · exact h2

/-- a text that may be parsed, but is in wrong brackets -/
theorem sp_err {l h r : List UInt8} {e : Int} (hh : hostS l = ((h, r), e)) (h0 : e ≠ 0) (h8 : l ≠ []) (h58 : l.head? ≠ some 58) : e = 3 := by
  unfold hostS bracketS at hh
  rw [if_neg (by rintro (h | h) <;> contradiction)] at hh
  repeat' split at hh
  all_goals (injection hh with _ hh; first | exact hh.symm | exact absurd hh.symm h0)
end Go.Proofs.YtgbhnjkigjecmaaGreatDoor.Au
