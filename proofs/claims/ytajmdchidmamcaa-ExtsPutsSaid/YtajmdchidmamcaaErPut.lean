/-
  Contracts of hagioscoperef10's PutName, PutProtocols and PutVersions over this seat's translation.
-/
import Derived.Test.YtajmdchidmamcaaExPut
import Derived.Test.YtajmdchidmamcaaRefVec
import Derived.Test.YtajmdchidmamcaaRfVis
import Derived.Lib.AppendStr
namespace Go.Proofs.Ytajmdchidmamcaa.Ex
open Go.RowKit Go.Proofs.Ytajmdchidmamcaa.Wd Go.Proofs.Ytajmdchidmamcaa.Be Go.Proofs.Ytajmdchidmamcaa.He Go.Proofs.Ytajmdchidmamcaa.Ro

/-- append of a string's bytes onto bytes of the call's own -/
theorem wpList_appS {ops : Array Oper} {rest : List Oper} {o : Oper} {a : Act} {w : World} {Q : Exit → Act → World → Prop} (hgd : o.guard = none) (s x : Operand)
    (ho : o.op = .call { callee := .builtin .append, args := #[s, x], argTypes := #[22, 9] })
    (B : Nat) (v : Value) (xs ys : List UInt8) (hs : a.eval s = v) (hown : Own w B v xs) (hx : a.eval x = .string (str8 ys)) (hlen : xs.length + ys.length ≤ 140737488355328) (hB : B ≤ w.heap.size)
    (h : ∀ v' w', Hid (Own w' B v' (xs ++ ys)) → Hid (w.grownBy w' v.ownBlock) → wpList Try.prog ops Q rest (a.put o.dst v') w') : wpList Try.prog ops Q (o :: rest) a w := by
  obtain ⟨i0, hi, hz0, hz1, hz2⟩ := info_parts inf8
  refine Lib.wpList_append_own_string w hgd s x 22 9 ho B 5 i0 und8 Try.underlying9 hi hz0 hz1 hz2 v xs.length (cellsOf xs) hs hown (str8 ys) hx (by unfold maxLen; show xs.length + ys.length ≤ _; omega) hlen hB ?_
  intro v' w' h1 h2 _
  refine h v' w' (Lib.hid ?_) (Lib.hid h2)
  have e : Lib.strCells (str8 ys) = cellsOf ys := by simp [Lib.strCells, cellsOf, str8, b8]
  rw [e, ← cellsOf_append] at h1
  unfold Own
  rw [List.length_append]
  exact h1

theorem rvecP_any (A : Option Addr) (n c k : Nat) (B : Option Addr) (m d : Nat) (size : Int) (xs ys : List UInt8) (w : World) (hs : Src w A n xs) (ht : Src w B m ys) (hn : n ≤ 100000) (hm : m ≤ 100000) (hk : clampI size = k) (hk2 : k ≤ 2) :
    Calls Try.prog 45 #[.slice A n c, .int .i64 size, .slice B m d] w (VecP xs (vecP xs k ys) w) := by
  have hp : 256 ^ k ≤ 65536 := Nat.pow_le_pow_right (n := 256) (by omega) hk2
  have hpi : ((256 ^ k : Nat) : Int) = 256 ^ k := by rw [Int.natCast_pow]; rfl
  by_cases h : ys.length < 256 ^ k
  · have hlt : m < 256 ^ k := by rw [← ht.1]; exact h
    refine (RefBe.rvec_yes A n c k B m d size xs ys w hs ht hn hm hk (by omega)).mono ?_
    rintro e w' ⟨v, rfl, ho, hbel⟩
    have hv : vecP xs k ys = some (xs ++ vecB k ys) := if_pos h
    have e1 : xs ++ bytesOf (m : Int) k ++ ys = xs ++ vecB k ys := by rw [vecB, ht.1, List.append_assoc]
    rw [e1] at ho
    obtain ⟨A', c', rfl, h1, h2⟩ := Own.src ho
    rw [hv]
    exact ⟨_, _, _, rfl, h2, h1, hbel⟩
  · have hlt : ¬ m < 256 ^ k := by rw [← ht.1]; exact h
    refine (RefBe.rvec_no A n c k B m d size xs w hs hn hm hk (by omega)).mono ?_
    rintro e w' ⟨v, rfl, ho, hbel⟩
    have hv : vecP xs k ys = none := if_neg h
    obtain ⟨A', c', rfl, h1, h2⟩ := Own.src ho
    rw [hv]
    exact ⟨_, _, _, rfl, h2, h1, hbel⟩

theorem byteOf_nat (n : Nat) : Go.Proofs.Ytajmdchidmamcaa.Be.byteOf (n : Int) = UInt8.ofNat (n % 256) := by
  unfold Go.Proofs.Ytajmdchidmamcaa.Be.byteOf
  congr 1
theorem lay_name {x : List UInt8} (h : mayS x = true) : layS putN 2 [x] = some (UInt8.ofNat ((x.length + 3) / 256) :: UInt8.ofNat ((x.length + 3) % 256) :: 0 :: 0 :: UInt8.ofNat x.length :: x) := by
  have hl := may_len h
  have hp : putN x = some ((0 : UInt8) :: vecB 2 x) := if_pos h
  have hc : catO putN [x] = some ((0 : UInt8) :: vecB 2 x) := by
    simp only [catO, hp, List.append_nil]
  have hv : ((0 : UInt8) :: vecB 2 x).length = x.length + 3 := by rw [List.length_cons, vecB_len]; omega
  have e2 : (256 : Nat) ^ 2 = 65536 := rfl
  rw [layS_end hc, if_neg (by simp), if_pos (by rw [hv]; omega)]
  have h2 : ∀ m : Nat, bytesOf (m : Int) 2 = [UInt8.ofNat (m / 256 % 256), UInt8.ofNat (m % 256)] := fun m => by
    have : bytesOf (m : Int) 2 = [Go.Proofs.Ytajmdchidmamcaa.Be.byteOf ((m : Int) / 256), Go.Proofs.Ytajmdchidmamcaa.Be.byteOf (m : Int)] := rfl
    rw [this, byteOf_nat, show ((m : Int) / 256) = ((m / 256 : Nat) : Int) by omega, byteOf_nat]
  rw [vecB, hv, h2, vecB, h2, Nat.mod_eq_of_lt (show (x.length + 3) / 256 < 256 by omega), show x.length / 256 % 256 = 0 by omega, Nat.mod_eq_of_lt (show x.length < 256 by omega)]
  rfl
theorem lay_none {x : List UInt8} (h : mayS x = false) : layS putN 2 [x] = none := by
  have hp : putN x = none := by rw [putN, h]; rfl
  rw [layS]
  simp only [catO, hp]

set_option maxRecDepth 100000 in
set_option maxHeartbeats 1000000 in
theorem rpname_any (x : List UInt8) (w : World) (hx : x.length ≤ 1000) : Calls Try.prog 19 #[.string (str8 x)] w (ItemP (layS putN 2 [x]) w) := by
  have HM := Lib.hid (show mayS x = (decide (x.length ≤ 255) && Asc.allS Asc.visI x) from rfl)
  obtain ⟨N, hxN⟩ : ∃ N, x.length = N := ⟨_, rfl⟩
  have hN : (str8 x).size = N := hxN
  rw [hxN] at HM hx
  have HX := Lib.hid hxN
  obtain ⟨s, hs⟩ : ∃ s, str8 x = s := ⟨_, rfl⟩
  have hbs : Asc.bs s = x := by rw [← hs]; exact bs_str8 x
  rw [hs] at hN ⊢
  have HS := Lib.hid hs
  clear hs hxN
  go_enter Try.func19, Try.ntmps19
  go_wp2_with fail
  refine (Asc.rvisible_any s w (by unfold maxLen; omega)).mono ?_
  rintro e w1 ⟨rfl, rfl⟩
  rw [hbs]
  have HBs := Lib.hid hbs
  clear hbs
  obtain ⟨b, hb⟩ : ∃ b, Asc.allS Asc.visI x = b := ⟨_, rfl⟩
  rw [hb] at HM ⊢
  clear hb
  by_cases h255 : N ≤ 255
  · have hd : decide ((255 : Int) < (N : Int)) = false := decide_eq_false (by omega)
    have hdz : ¬ (255 : Int) < (N : Int) := by omega
    cases b with
    | true =>
      have hm : mayS x = true := by rw [HM.out, decide_eq_true h255]; rfl
      have HL := Lib.hid (lay_name hm)
      rw [HX.out] at HL
      have hw1 : IntKind.u8.wrap (N : Int) = (N : Int) := by rw [IntKind.wrap_u8]; omega
      clear hm HM
      have hC : (#[.int .u8 0, .int .u8 0, .int .u8 0, .int .u8 0, .int .u8 (N : Int)] : Array Value) = (cellsOf [0, 0, 0, 0, UInt8.ofNat N]).toArray := by
        simp [cellsOf, b8]
        omega
      have HO := Lib.hid (show Own (w.alloc (.cells #[.int .u8 0, .int .u8 0, .int .u8 0, .int .u8 0, .int .u8 (N : Int)] 5)) w.heap.size (.slice (some ⟨w.heap.size, 0, none⟩) 5 5) [0, 0, 0, 0, UInt8.ofNat N] from
        ⟨rfl, .inr ⟨w.heap.size, 5, _, rfl, Nat.le_refl _, heap_alloc_new w _, Nat.le_refl _, by unfold maxLen; omega, rfl, by rw [hC]; rfl⟩⟩)
      have HB0 := Lib.hid ((Below.refl w.heap.size w).alloc (Nat.le_refl _) (.cells #[.int .u8 0, .int .u8 0, .int .u8 0, .int .u8 0, .int .u8 (N : Int)] 5))
      clear hC
      go_upto_region 5 with (at_builtin; refine wpList_appS rfl _ _ rfl w.heap.size _ [0, 0, 0, 0, UInt8.ofNat N] x rfl (by exact HO.out) (by rw [HS.out]; rfl) (by simp [HX.out]; omega) (by simp) ?_; intro v1 w1 HO1 HG1)
      have HB1 := Lib.hid (HB0.out.grown HG1.out (by simp) (fun j hj => by have h1 : w.heap.size = j := Option.some.inj hj; omega))
      obtain ⟨hl, ⟨rfl, h0⟩ | ⟨g, cap, cur, rfl, hg, hh, hc, hm, hz, ht⟩⟩ := HO1.out
      · simp at h0
      have hlen : ([0, 0, 0, 0, UInt8.ofNat N] ++ x).length = N + 5 := by rw [List.length_append, HX.out]; simp; omega
      rw [hlen] at hc ht ⊢
      have hb1 : Blk w1 g 5 cur := hh
      have HGet := Lib.hid (show ∀ j c, ([0, 0, 0, 0, UInt8.ofNat N] ++ x)[j]? = some c → cur[j]? = some (b8 c) from fun j c hj => by
        have h1 := cellsOf_get hj
        rw [← ht, List.getElem?_take] at h1
        split at h1
        · rwa [Array.getElem?_toList] at h1
        · cases h1)
      have hk0 : w1.cell? ⟨g, 0, none⟩ = some (.int .u8 0) := by rw [hb1.cell]; exact HGet.out 0 0 rfl
      have hk1 : w1.cell? ⟨g, 1, none⟩ = some (.int .u8 0) := by rw [hb1.cell]; exact HGet.out 1 0 rfl
      have hf0 := hb1.frozen 0
      have hf1 := hb1.frozen 1
      have HBk := Lib.hid hb1
      have HHl := Lib.hid hlen
      clear hl hh hm hz ht hb1 HG1 HO1 HO HB0 hlen
      go_wp2_with fail
      have hb3 := (HBk.out.set_ 1 (.int .u8 (((N : Int) + 3) % 256))).set_ 0 (.int .u8 (((N : Int) + 3) / 256))
      have hgr := only_setCell (p := ⟨g, 0, none⟩) (only_setCell (p := ⟨g, 1, none⟩) (only_refl w1 (some g)) (.inl rfl) (.int .u8 (((N : Int) + 3) % 256))) (.inl rfl) (.int .u8 (((N : Int) + 3) / 256))
      have hB3 := HB1.out.grown hgr HB1.out.size (fun j hj => by injection hj with hj; omega)
      have hsrc := Src.of_blk (off := 0) (xs := UInt8.ofNat ((N + 3) / 256) :: UInt8.ofNat ((N + 3) % 256) :: 0 :: 0 :: UInt8.ofNat N :: x) hb3 (fun j c hj => by
        rw [Nat.zero_add]
        simp only [Array.getElem?_setIfInBounds, Array.size_setIfInBounds]
        match j, hj with
        | 0, hj =>
          have hin : 0 < cur.size := (Array.getElem?_eq_some_iff.1 (HGet.out 0 0 rfl)).1
          rw [if_pos rfl, if_pos hin]
          simp at hj
          subst hj
          simp [b8]
          omega
        | 1, hj =>
          have hin : 1 < cur.size := (Array.getElem?_eq_some_iff.1 (HGet.out 1 0 rfl)).1
          rw [if_neg (by omega), if_pos rfl, if_pos hin]
          simp at hj
          subst hj
          simp [b8]
        | j + 2, hj =>
          rw [if_neg (by omega), if_neg (by omega)]
          exact HGet.out (j + 2) c hj)
      have hlen2 : (UInt8.ofNat ((N + 3) / 256) :: UInt8.ofNat ((N + 3) % 256) :: 0 :: 0 :: UInt8.ofNat N :: x).length = N + 5 := by simp [HX.out]
      rw [hlen2] at hsrc
      go_ret2
      rw [HL.out]
      exact ⟨_, _, _, rfl, hsrc, hc, hB3⟩
    | false =>
      have HL := Lib.hid (show layS putN 2 [x] = none from lay_none (by rw [HM.out]; simp))
      clear HM
      go_wp2_with fail
      go_ret2
      rw [HL.out]
      exact ⟨none, 0, 0, rfl, Src.nil _, Nat.le_refl _, Below.refl _ _⟩
  · have hd : decide ((255 : Int) < (N : Int)) = true := decide_eq_true (by omega)
    have hdz : (255 : Int) < (N : Int) := by omega
    have HL := Lib.hid (show layS putN 2 [x] = none from lay_none (by rw [HM.out, decide_eq_false h255]; rfl))
    clear HM
    go_wp2_with fail
    go_ret2
    rw [HL.out]
    exact ⟨none, 0, 0, rfl, Src.nil _, Nat.le_refl _, Below.refl _ _⟩
end Go.Proofs.Ytajmdchidmamcaa.Ex
