/-
  The law AsciiHex holds: whatever the number and the flag, the call returns true and leaves what was there as it was. No condition.
-/
import Derived.Test.YtpeahbejmhmbjaaAscLaws
import Derived.Test.YtpeahbejmhmbjaaLift
namespace Go.Proofs.Ytpeahbejmhmbjaa.asciiHex
open Go.ChangeShapes Go.WideShapes Go.ChangeAt Go.RowKit
open Go.ChangeMaps (open_string shut_string)
open Go.Proofs.Ytpeahbejmhmbjaa.Wd Go.Proofs.Ytpeahbejmhmbjaa.Asc Go.Proofs.Ytpeahbejmhmbjaa.Lift

theorem u16_of {a : Int} (h : (Lit.int .u16 a).wf = true) : 0 ≤ a ∧ a ≤ 65535 := by
  simpa [Lit.wf, IntKind.min, IntKind.max, IntKind.signed, IntKind.bits] using h

/-- a digit's byte, great or small -/
def hx (g : Bool) (d : Nat) : UInt8 := if d < 10 then UInt8.ofNat (48 + d) else UInt8.ofNat ((if g then 55 else 87) + d)
theorem hx_hex : ∀ (g : Bool) (d : Fin 16), hexI ((hx g d.1).toNat : Int) = some (d.1 : Int) := by decide
theorem hx_is (g : Bool) (d : Nat) (h : d < 16) : hexI ((hx g d).toNat : Int) = some (d : Int) := hx_hex g ⟨d, h⟩
/-- the last k digits -/
def hxs (g : Bool) (n : Nat) : Nat → List UInt8
  | 0 => []
  | k + 1 => hx g (n / 16 ^ k % 16) :: hxs g n k
theorem hxs_length (g : Bool) (n : Nat) : ∀ k, (hxs g n k).length = k
  | 0 => rfl
  | k + 1 => by rw [hxs, List.length_cons, hxs_length g n k]
theorem hxs_fold (g : Bool) (n : Nat) : ∀ (k : Nat) (a : Nat), foldv 16 (hxs g n k) (a : Int) = some (((a * 16 ^ k + n % 16 ^ k : Nat)) : Int)
  | 0, a => by simp [hxs, foldv, Nat.mod_one]
  | k + 1, a => by
    have hd : n / 16 ^ k % 16 < 16 := Nat.mod_lt _ (by omega)
    rw [hxs, foldv, hx_is g _ hd]
    simp only
    rw [if_pos (by omega)]
    have e : (a : Int) * 16 + ((n / 16 ^ k % 16 : Nat) : Int) = ((a * 16 + n / 16 ^ k % 16 : Nat) : Int) := by omega
    rw [e, hxs_fold g n k]
    congr 2
    have h2 : n % 16 ^ (k + 1) = n % 16 ^ k + 16 ^ k * (n / 16 ^ k % 16) := by rw [Nat.pow_succ, Nat.mod_mul]
    rw [h2, Nat.add_mul, Nat.pow_succ, Nat.mul_assoc, Nat.mul_comm 16 (16 ^ k), Nat.mul_comm (16 ^ k) (n / 16 ^ k % 16)]
    omega
theorem hxs_hex (g : Bool) (n : Nat) (h : n ≤ 65535) : foldv 16 (hxs g n 4) 0 = some (n : Int) := by
  have := hxs_fold g n 4 0
  rw [Nat.zero_mul, Nat.zero_add, Nat.mod_eq_of_lt (by show n < 65536; omega)] at this
  exact this

def digs (g : Bool) : ByteArray := if g then ⟨#[48, 49, 50, 51, 52, 53, 54, 55, 56, 57, 65, 66, 67, 68, 69, 70]⟩ else ⟨#[48, 49, 50, 51, 52, 53, 54, 55, 56, 57, 97, 98, 99, 100, 101, 102]⟩
theorem digs_at : ∀ (g : Bool) (d : Fin 16), ((bs (digs g)).drop d.1).take 1 = [hx g d.1] := by decide
theorem digs_ext (g : Bool) (M : Nat) : (digs g).extract (M % 16) (M % 16 + 1) = ⟨#[hx g (M % 16)]⟩ := by
  apply bs_inj
  rw [bs_extract, Nat.add_sub_cancel_left]
  exact digs_at g ⟨M % 16, Nat.mod_lt _ (by omega)⟩

def HexAt (g : Bool) (N : Nat) (x y z : Value) : Prop :=
  ∃ (j M : Nat) (b : ByteArray), z = .int .i64 j ∧ j ≤ 4 ∧ y = .int .i64 (M : Int) ∧ M = N / 16 ^ j ∧ x = .string b ∧ bs b = hxs g N j
theorem hex_next {g : Bool} {N j M : Nat} {b : ByteArray} (hM : M = N / 16 ^ j) (hb : bs b = hxs g N j) : bs ((digs g).extract (M % 16) (M % 16 + 1) ++ b) = hxs g N (j + 1) := by
  rw [bs_add, digs_ext, hb, hxs, ← hM]; rfl
theorem quot_next {N j M : Nat} (hM : M = N / 16 ^ j) : M / 16 = N / 16 ^ (j + 1) := by rw [hM, Nat.pow_succ, Nat.div_div_eq_div_mul]

def strSz : Value → Nat
  | .string b => b.size
  | _ => 0
/-- short: what is left tells the same -/
def Sh (n : Int) (x : Value) : Prop := ∃ b : ByteArray, x = .string b ∧ 1 ≤ b.size ∧ b.size ≤ 4 ∧ foldv 16 (bs b) 0 = some n
theorem sh_next {n : Int} {b : ByteArray} (h0 : 0 < b.size) (h : foldv 16 (bs b) 0 = some n) (hc : (b[0]'h0) = 48) : foldv 16 (bs (b.extract 1 b.size)) 0 = some n := by
  rw [bs_extract]
  have e := bs_drop b 0 h0
  rw [List.drop_zero, hc] at e
  rw [e, foldv] at h
  have e2 : ((bs b).drop (0 + 1)).take (b.size - 1) = (bs b).drop (0 + 1) := List.take_of_length_le (by rw [List.length_drop, bs_length]; omega)
  rw [e2]
  exact h
theorem sh_hex {n : Int} {b : ByteArray} (h1 : 1 ≤ b.size) (h2 : b.size ≤ 4) (h : foldv 16 (bs b) 0 = some n) : hexS (bs b) = some n := (digits_in 16 4 b h1 h2).trans h
theorem ext_size (b : ByteArray) : (b.extract 1 b.size).size = b.size - 1 := by
  rw [← bs_length, bs_extract, List.length_take, List.length_drop, bs_length]; omega

set_option maxRecDepth 100000 in
set_option maxHeartbeats 4000000 in
theorem walk (w : World) (a : Int) (ha : 0 ≤ a ∧ a ≤ 65535) (g : Bool) :
    Calls Try.prog 8 #[.int .u16 a, .bool g] w fun e w' => e = .returned (.bool true) ∧ Below w.heap.size w w' := by
  have hB : Below w.heap.size w w := Below.refl _ _
  obtain ⟨N, rfl⟩ : ∃ N : Nat, a = (N : Int) := ⟨a.toNat, by omega⟩
  have hN : N ≤ 65535 := by omega
  clear ha
  obtain ⟨G, HG, HD⟩ : ∃ G, Hid (G = g) ∧ Hid (digs G = if g then ⟨#[48, 49, 50, 51, 52, 53, 54, 55, 56, 57, 65, 66, 67, 68, 69, 70]⟩ else ⟨#[48, 49, 50, 51, 52, 53, 54, 55, 56, 57, 97, 98, 99, 100, 101, 102]⟩) := ⟨g, Lib.hid rfl, Lib.hid rfl⟩
  cases g
  all_goals
    go_enter Try.func8, Try.ntmps8
    go_wp2_with (go_at_call 9; refine (small_any _).mono ?_; rintro e w' ⟨rfl, hb⟩; replace hB := hB.trans (hb.mono hB.size); clear hb)
    go_loop [7, 8, 9] (fun x y z => HexAt G N x y z) (fun _ _ z => (4 - intOf z).toNat)
    case atStart => exact ⟨0, N, ⟨#[]⟩, rfl, by omega, rfl, by simp, rfl, rfl⟩
    case round =>
      obtain ⟨j, M, b, rfl, hj, rfl, hM, rfl, hb⟩ := hrel
      have hM2 : M ≤ 65535 := by rw [hM]; exact Nat.le_trans (Nat.div_le_self _ _) hN
      have HM := Lib.hid hM
      have HS := Lib.hid hb
      have hsz : b.size = j := by rw [← bs_length, hb, hxs_length]
      have hsz2 : b.size ≤ 4 := by omega
      clear hM hb
      by_cases hlt : j < 4
      · have hlt' : (j : Int) < 4 := by omega
        have HX := Lib.hid (hex_next (g := G) HM.out HS.out)
        clear hsz
        go_wp2
        go_round
        case rel => exact ⟨j + 1, M / 16, _, by go_num, by omega, by go_num, quot_next HM.out, rfl, by have := HX.out; rw [HD.out] at this; exact this⟩
        case measure => simp [intOf]; omega
      · have hlt' : ¬ (j : Int) < 4 := by omega
        obtain rfl : j = 4 := by omega
        have HV := Lib.hid (sh_hex (b := b) (n := (N : Int)) (by omega) (by omega) (by rw [HS.out]; exact hxs_hex G N hN))
        have HV0 : Hid (foldv 16 (bs b) 0 = some (N : Int)) := Lib.hid (by rw [HS.out]; exact hxs_hex G N hN)
        have hl5' : ((⟨#[48]⟩ : ByteArray) ++ b).size = 5 := by rw [size_add, hsz]; rfl
        have hl5 : ((⟨#[48]⟩ : ByteArray) ++ b).size ≤ maxLen := by rw [hl5']; decide
        have H5 : Hid (hexS (bs ((⟨#[48]⟩ : ByteArray) ++ b)) = none) := Lib.hid (by rw [hexS, digitsS, bs_length, hl5', if_pos (by omega)])
        have hbm : b.size ≤ maxLen := by unfold maxLen; omega
        have hsz1 : 1 ≤ b.size := by omega
        have HL5 := Lib.hid hl5
        clear hl5 hl5' hsz
        go_wp2_with (go_at_call 21; refine (hex_any b _ hbm).mono ?_; rintro e w' ⟨rfl, hb⟩; replace hB := hB.trans (hb.mono hB.size); clear hb; rw [HV.out, dTup])
        go_loop [12] (fun x => Sh (N : Int) x) (fun x => strSz x)
        case atStart => exact ⟨b, rfl, hsz1, hsz2, HV0.out⟩
        case round =>
          obtain ⟨c, rfl, hc1, hc2, hcf⟩ := hrel
          have HC := Lib.hid hcf
          have HY := Lib.hid (sh_hex hc1 hc2 hcf)
          have HCM : Hid (c.size ≤ maxLen) := Lib.hid (by unfold maxLen; omega)
          clear hcf
          by_cases h1 : 1 < c.size
          · have h0 : 0 < c.size := by omega
            by_cases h2 : (c[0]'h0) = 48
            · have h48 : (((c[0]'h0).toNat : Int) == 48) = true := by rw [h2]; rfl
              have HN := Lib.hid (sh_next h0 HC.out h2)
              clear h2
              go_wp2
              go_round
              case rel => exact ⟨_, rfl, by rw [ext_size]; omega, by rw [ext_size]; omega, HN.out⟩
              case measure => simp [strSz]; omega
            · have h48 : (((c[0]'h0).toNat : Int) == 48) = false := byte_ne (k := 48) (by omega) h2
              clear h2
              go_wp2_with fail
              with_reducible refine (hex_any c _ HCM.out).mono ?_
              rintro e w' ⟨rfl, hb⟩; replace hB := hB.trans (hb.mono hB.size); clear hb; rw [HY.out, dTup]
              go_wp2_with fail
              refine (hex_any _ _ HL5.out).mono ?_
              rintro e w' ⟨rfl, hb⟩; replace hB := hB.trans (hb.mono hB.size); clear hb; rw [H5.out, dTup]
              go_wp2_with fail
              go_ret
              exact ⟨by simp, hB⟩
          · have h1' : ¬ (1 : Int) < (c.size : Int) := by omega
            · go_wp2_with fail
              with_reducible refine (hex_any c _ HCM.out).mono ?_
              rintro e w' ⟨rfl, hb⟩; replace hB := hB.trans (hb.mono hB.size); clear hb; rw [HY.out, dTup]
              go_wp2_with fail
              refine (hex_any _ _ HL5.out).mono ?_
              rintro e w' ⟨rfl, hb⟩; replace hB := hB.trans (hb.mono hB.size); clear hb; rw [H5.out, dTup]
              go_wp2_with fail
              go_ret
              exact ⟨by simp, hB⟩

set_option maxRecDepth 100000 in
set_option linter.unusedVariables false in
theorem lifted (os : Os) (started : os.Started) (H : Type) (enc : TypeId × Value → H) :
    ReturnsInHanded {} Try.checked os 8 .any (Rows.asciiHexSpec.pre6 enc Try.prog Try.f8 Rows.asciiHexRow.domain false) (Rows.asciiHexSpec.post enc Try.prog Try.f8 false true false false) := by
  refine returnsInHanded_of_change (C := Try.checked) own started (by kernel_rfl) Try.func8
    (ChangeSpec.witness6 (enc := enc) (C := Try.checked) false ⟨#[], #[.int .u16 0, .bool false], []⟩ 8 (by kernel_rfl) (by kernel_rfl) (by kernel_rfl) (by kernel_rfl)) ?_
  intro W base args ds gs before hval0 hW hcnd _
  have hval : ∀ (j : Nat) t v, Try.f8.params[j]? = some t → args[j]? = some v → Value.okWide Try.prog W .any base t v := hval0
  have hW' := hW
  obtain ⟨p, q, hA0, hV, rfl, hfz, hnd⟩ := hW
  have hA : DataW.TrodAll enc Try.prog W 0 (fun _ => true) true Try.f8.params.toList args.toList ds p := hA0
  rw [Try.params8] at hA hval
  obtain ⟨v0, vs0, d0, ds0, p0, q0, hargs, rfl, rfl, h0, r0⟩ := trodAll_cons hA
  obtain ⟨v1, vs1, d1, ds1, p1, q1, rfl, rfl, rfl, h1, r1⟩ := trodAll_cons r0
  obtain ⟨rfl, rfl, rfl⟩ := trodAll_nil r1
  obtain rfl : args = #[v0, v1] := by cases args; simp_all
  obtain ⟨rfl, rfl⟩ := trodVars_none hV
  have k0 := h0
  have lt0 : ∀ x ∈ p0, x.block < W.heap.size := by obtain ⟨m, hm⟩ := k0; exact DataW.trod_lt m _ _ _ hm
  obtain ⟨a0, rfl, rfl, rfl, w0⟩ := open_int Try.underlying32 (hval 0 32 v0 rfl rfl) h0
  have b0 := u16_of w0
  have k1 := h1
  have lt1 : ∀ x ∈ p1, x.block < W.heap.size := by obtain ⟨m, hm⟩ := k1; exact DataW.trod_lt m _ _ _ hm
  obtain ⟨a1, rfl, rfl, rfl⟩ := open_bool Try.underlying4 (hval 1 4 v1 rfl rfl) h1
  clear hA0 hval0
  refine (walk W a0 b0 a1).mono fun e W' ⟨he, bel⟩ => ?_
  subst he
  exact ⟨_, rfl, _, _, _, [], _, [], hW', trodAll_mk1 (shut_bool Try.underlying4 _), (trodAll_cons_mk (Below.trod laidOut (by kernel_rfl) (of_decide_eq_true (by kernel_rfl)) k0 bel lt0) (trodAll_cons_mk (Below.trod laidOut (by kernel_rfl) (of_decide_eq_true (by kernel_rfl)) k1 bel lt1) trodAll_mk0)), rfl, bel.frame _, fun h => by cases h⟩

theorem over : Rows.asciiHexRow.holds Try.pinned (OpenSpec.ofChange Rows.asciiHexSpec) :=
  OpenClaim.holds_of_wide 8 Try.f8 rfl rfl rfl rfl rfl rfl rfl ⟨rfl, rfl, rfl, rfl, rfl⟩ rfl rfl rfl rfl rfl (by kernel_rfl) Try.func8 (by kernel_rfl)
    (of_decide_eq_true (by kernel_rfl)) (by unfold Func.isWrapper; first | (rw [if_pos (by decide +kernel)]; kernel_rfl) | (rw [if_neg (by decide +kernel)]; exact ⟨rfl, rfl⟩))
    (fun os started H enc _ => lifted os started H enc)

theorem proved : Rows.AsciiHexSaid := over
#print axioms proved
end Go.Proofs.Ytpeahbejmhmbjaa.asciiHex
