/-
  The law BeBack holds: whatever the numbers and the strings, the call returns true and leaves what was there as it was. No condition.
-/
import Derived.Test.YteikjoafabldpaaBePure
import Derived.Test.YteikjoafabldpaaLift2
import Derived.Deep.RegionWith
import Derived.Laws.IdiomStrings
namespace Go.Proofs.Yteikjoafabldpaa.beBack
open Go.ChangeShapes Go.WideShapes Go.ChangeAt Go.RowKit
open Go.ChangeMaps (open_string shut_string)
open Go.Proofs.Yteikjoafabldpaa.Wd Go.Proofs.Yteikjoafabldpaa.Be Go.Proofs.Yteikjoafabldpaa.Lift

def enc1 (zs : List Int) : List UInt8 := zs.flatMap fun z => bytesOf z 4
def str (s : ByteArray) : List UInt8 := s.data.toList
def enc2 (ss : List ByteArray) : List UInt8 := ss.flatMap fun s => bytesOf ((str s).length : Int) 2 ++ str s
theorem enc1_len (zs : List Int) : (enc1 zs).length = 4 * zs.length := by
  induction zs with
  | nil => rfl
  | cons z zs ih => simp only [enc1, List.flatMap_cons, List.length_append, bytesOf_length, List.length_cons] at *; omega
theorem enc1_snoc (zs : List Int) (k : Nat) (h : k < zs.length) : enc1 (zs.take (k + 1)) = enc1 (zs.take k) ++ bytesOf zs[k] 4 := by
  rw [List.take_add_one, List.getElem?_eq_getElem h]
  simp only [enc1, Option.toList_some, List.flatMap_append, List.flatMap_cons, List.flatMap_nil, List.append_nil]
theorem enc2_snoc (ss : List ByteArray) (k : Nat) (h : k < ss.length) : enc2 (ss.take (k + 1)) = enc2 (ss.take k) ++ (bytesOf ((str ss[k]).length : Int) 2 ++ str ss[k]) := by
  rw [List.take_add_one, List.getElem?_eq_getElem h]
  simp only [enc2, Option.toList_some, List.flatMap_append, List.flatMap_cons, List.flatMap_nil, List.append_nil]
theorem enc1_drop (zs : List Int) (k : Nat) (h : k < zs.length) : enc1 (zs.drop k) = bytesOf zs[k] 4 ++ enc1 (zs.drop (k + 1)) := by
  rw [List.drop_eq_getElem_cons h]; rfl
theorem enc2_drop (ss : List ByteArray) (k : Nat) (h : k < ss.length) : enc2 (ss.drop k) = bytesOf ((str ss[k]).length : Int) 2 ++ (str ss[k] ++ enc2 (ss.drop (k + 1))) := by
  rw [List.drop_eq_getElem_cons h, ← List.append_assoc]; rfl
theorem natOf_u32 (z : Int) (h : 0 ≤ z ∧ z ≤ 4294967295) : (natOf (bytesOf z 4) : Int) = z := by
  rw [natOf_bytesOf, show (256 : Int) ^ 4 = 4294967296 from by simp]
  omega
theorem numS_u32 (z : Int) (ys : List UInt8) (h : 0 ≤ z ∧ z ≤ 4294967295) : numS (some (bytesOf z 4 ++ ys)) 4 = (z.toNat, some ys) := by
  rw [numS_in _ _ 4 4 (bytesOf_length _ _) (by decide)]
  have := natOf_u32 z h
  congr 1
  omega
theorem enc2_le (ss : List ByteArray) (h : ∀ s ∈ ss, (str s).length ≤ 300) : (enc2 ss).length ≤ 302 * ss.length := by
  induction ss with
  | nil => simp [enc2]
  | cons s ss ih =>
    have h1 := h s (by simp)
    have h2 := ih (fun x hx => h x (by simp [hx]))
    simp only [enc2, List.flatMap_cons, List.length_append, bytesOf_length, List.length_cons] at *
    omega

/-- []byte(s): new memory that reads as s -/
theorem bytes_of_str (s : ByteArray) (w : World) : ∃ c w', (convert 9 22 (.string s)).run Try.prog w = .ok (.slice (some ⟨w.heap.size, 0, none⟩) s.size c) w' ∧ Src w' (some ⟨w.heap.size, 0, none⟩) s.size (str s) ∧ Below w.heap.size w w' ∧ w'.heap.size = w.heap.size + 1 := by
  refine ⟨_, _, run_bytes_of_string (P := Try.prog) w 9 22 5 s Try.underlying9 Try.underlying22 Try.underlying5, ⟨?_, fun _ => ⟨_, rfl, ?_, fun j c hj => ?_⟩⟩, ?_, ?_⟩
  · rw [str, Array.length_toList]; rfl
  · show w.heap.size < (w.heap.push _).size
    simp
  · have hj' : s.data[j]? = some c := by rw [← Array.getElem?_toList]; exact hj
    have hlt := (Array.getElem?_eq_some_iff.1 hj').1
    rw [add_none, Nat.zero_add]
    refine (World.cell?_alloc_mark w.drew _ _ _ j).trans ?_
    rw [bytesRow_at s _ j hlt, (Array.getElem?_eq_some_iff.1 hj').2]
    rfl
  · exact (Below.refl _ _).drew.alloc (Nat.le_refl _) _
  · show (w.heap.push _).size = _
    simp

theorem num_u32 (r : Nat) (z : Int) (ys : List UInt8) (w : World) (hr : Rd w r (some (bytesOf z 4 ++ ys))) (hz : 0 ≤ z ∧ z ≤ 4294967295) (hl : ys.length ≤ 100000) :
    Calls Try.prog 15 #[.pointer (some ⟨r, 0, none⟩), .int .i64 4] w fun e w' => e = .returned (.int .i64 z) ∧ Rd w' r (some ys) ∧ w.grownBy w' (some r) := by
  refine (num_any r 4 _ w hr (fun rest h => by injection h with h; subst h; rw [List.length_append, bytesOf_length]; omega)).mono ?_
  rw [numS_u32 z ys hz]
  rintro e w' ⟨he, h1, h2⟩
  exact ⟨by rw [he, Int.toNat_of_nonneg hz.1], h1, h2⟩
def StrPost (r n : Nat) (xs ys : List UInt8) (w : World) (e : Ending) (w' : World) : Prop :=
  ∃ A c, e = .returned (.slice A n c) ∧ Src w' A n xs ∧ Rd w' r (some ys) ∧ w.grownBy w' (some r)
theorem vec_str (r : Nat) (xs ys : List UInt8) (w : World) (hr : Rd w r (some (bytesOf (xs.length : Int) 2 ++ (xs ++ ys)))) (hx : xs.length ≤ 300) (hl : ys.length ≤ 100000) :
    Calls Try.prog 19 #[.pointer (some ⟨r, 0, none⟩), .int .i64 2] w (StrPost r xs.length xs ys w) := by
  refine (rvec_any r 2 _ w hr (fun rest h => by injection h with h; subst h; rw [List.length_append, List.length_append, bytesOf_length]; omega)).mono ?_
  rw [vecS_in xs ys 2 2 (by decide) (by rw [show (256 : Int) ^ 2 = 65536 from by simp]; omega)]
  rintro e w' ⟨v, he, hsl, h1, h2⟩
  obtain ⟨A, c, rfl, _, hs⟩ := hsl.src
  exact ⟨A, c, he, hs, h1, h2⟩

set_option maxHeartbeats 4000000 in
theorem walk (w : World) (A0 : Option Addr) (n0 c0 : Nat) (zs : List Int) (_ : n0 ≤ c0) (_ : c0 ≤ maxLen) (hz : SrcV w A0 n0 (zs.map (Value.int .u32)) ∧ ∀ z ∈ zs, 0 ≤ z ∧ z ≤ 4294967295)
    (A1 : Option Addr) (n1 c1 : Nat) (ss : List ByteArray) (_ : n1 ≤ c1) (_ : c1 ≤ maxLen) (hss : SrcV w A1 n1 (ss.map Value.string)) :
    Calls Try.prog 5 #[.slice A0 n0 c0, .slice A1 n1 c1] w fun e w' => e = .returned (.bool true) ∧ Below w.heap.size w w' := by
  by_cases h0 : 100 < n0
  · have hd : decide ((100 : Int) < n0) = true := by simp; omega
    go_enter Try.func5, Try.ntmps5
    go_wp2_with fail
    refine (small_any w).mono ?_
    rintro e w1 ⟨rfl, hb1⟩
    go_wp2_with fail
    go_ret
    exact ⟨rfl, hb1⟩
  by_cases h1 : 50 < n1
  · have hd : decide (100 < n0) = false := by simp; omega
    go_enter Try.func5, Try.ntmps5
    go_wp2_with fail
    refine (small_any w).mono ?_
    rintro e w1 ⟨rfl, hb1⟩
    go_wp2_with fail
    go_ret
    exact ⟨rfl, hb1⟩
  have hd0 : decide ((100 : Int) < (n0 : Int)) = false := by simp; omega
  have hd1 : decide ((50 : Int) < (n1 : Int)) = false := by simp; omega
  go_enter Try.func5, Try.ntmps5
  go_wp2_with fail
  refine (small_any w).mono ?_
  rintro e w1 ⟨rfl, hb1⟩
  have HZ := Lib.hid (hz.1.below hb1)
  have HZb := Lib.hid hz.2
  have HS := Lib.hid (hss.below hb1)
  have Hzl : Hid (zs.length = n0) := by have := hz.1.1; rwa [List.length_map] at this
  have Hsl : Hid (ss.length = n1) := by have := hss.1; rwa [List.length_map] at this
  clear hz hss
  go_wp2_with fail
  go_loopw [6, 7] (fun b i wr => ∃ k A c, k ≤ n0 ∧ i = .int .i64 (k : Int) ∧ b = .slice A (4 * k) c ∧ Src wr A (4 * k) (enc1 (zs.take k)) ∧ Below w1.heap.size w1 wr) (fun _ i _ => n0 - (intOf i).toNat)
  case atStart => exact ⟨0, none, 0, Nat.zero_le _, rfl, rfl, Src.nil w1, Below.refl _ _⟩
  case round =>
    obtain ⟨k, A, c, hk, rfl, rfl, hsrc, hbel⟩ := hrel
    by_cases hlt : k < n0
    · obtain ⟨ad, rfl, hadb, hcell0⟩ := HZ.out.at_ hlt
      have hkl : k < zs.length := by rw [Hzl.out]; exact hlt
      have hcell : wr.cell? (ad.add k) = some (.int .u32 zs[k]) := by
        rw [hbel.cell (by rw [block_of_add]; exact hadb), hcell0, List.getElem?_map, List.getElem?_eq_getElem hkl]; rfl
      have hzb := HZb.out zs[k] (List.getElem_mem _)
      have HE := Lib.hid (enc1_snoc zs k hkl)
      have HSRC := Lib.hid hsrc
      clear hsrc hcell0
      generalize zs[k] = z at *
      obtain ⟨hz0, hz1⟩ := hzb
      go_wp2_with fail
      refine (put_any A (4 * k) c 4 z 4 _ wr HSRC.out (by omega) (by decide)).mono ?_
      rintro e w2 ⟨rfl, hblk, hb2⟩
      have hsrc2 : Src w2 (some ⟨wr.heap.size, 0, none⟩) (4 * (k + 1)) (enc1 (zs.take (k + 1))) := by
        have h := src_of hblk
        rw [← HE.out, enc1_len, List.length_take, Nat.min_eq_left (by rw [Hzl.out]; omega)] at h
        exact h
      have HSRC2 := Lib.hid hsrc2
      have hbel2 : Below w1.heap.size w1 w2 := hbel.trans (hb2.mono hbel.size)
      clear hblk hb2 hsrc2
      go_wp2_with fail
      go_roundw
      case rel => exact ⟨k + 1, _, _, by omega, by go_num, rfl, HSRC2.out, hbel2⟩
      case measure => simp [intOf]; omega
    · obtain rfl : k = n0 := by omega
      have hsrc' : Src wr A (4 * k) (enc1 zs) := by rwa [List.take_of_length_le (by rw [Hzl.out]; omega)] at hsrc
      have HSRC := Lib.hid hsrc'
      clear hsrc hsrc'
      go_wp2_with fail
      go_loopw [6, 8] (fun b i wx => ∃ j A c N, j ≤ n1 ∧ i = .int .i64 (j : Int) ∧ b = .slice A N c ∧ N ≤ 400 + 302 * j ∧ Src wx A N (enc1 zs ++ enc2 (ss.take j)) ∧ Below w1.heap.size w1 wx ∧ Hid (∀ s ∈ ss.take j, (str s).length ≤ 300)) (fun _ i _ => n1 - (intOf i).toNat)
      case atStart => exact ⟨0, _, _, 4 * k, Nat.zero_le _, rfl, rfl, by omega, by have h := HSRC.out; rwa [show enc2 (ss.take 0) = [] from rfl, List.append_nil], hbel, fun s hs => by cases hs⟩
      case round =>
        clear hbel HSRC hk
        obtain ⟨j, A2, c2, N, hj, rfl, rfl, hN, hsrc, hbel, Hle⟩ := hrel
        by_cases hjt : j < n1
        · obtain ⟨ad, rfl, hadb, hcell0⟩ := HS.out.at_ hjt
          have hjl : j < ss.length := by rw [Hsl.out]; exact hjt
          have hcell : wr.cell? (ad.add j) = some (.string ss[j]) := by
            rw [hbel.cell (by rw [block_of_add]; exact hadb), hcell0, List.getElem?_map, List.getElem?_eq_getElem hjl]; rfl
          have HE := Lib.hid (enc2_snoc ss j hjl)
          have HSRC := Lib.hid hsrc
          have Hmem : Hid (∀ s ∈ ss.take (j + 1), s ∈ ss.take j ∨ s = ss[j]) := by
            intro s hs
            rw [List.take_add_one, List.getElem?_eq_getElem hjl] at hs
            rcases List.mem_append.1 hs with h | h
            · exact .inl h
            · exact .inr (by simpa using h)
          clear hsrc hcell0
          generalize ss[j] = s at *
          have hsl : (str s).length = s.size := by rw [str, Array.length_toList]; rfl
          have HSL := Lib.hid hsl
          clear hsl
          by_cases hlong : 300 < s.size
          · go_wp2_with fail
            go_ret
            exact ⟨rfl, hb1.trans (hbel.mono hb1.size)⟩
          · obtain ⟨cc, w2, kc, hs2, hb2, hw2⟩ := bytes_of_str s wr
            have HS2 := Lib.hid hs2
            have HSRC2 := Lib.hid (HSRC.out.below hb2)
            have HW2 := Lib.hid hw2
            clear hs2 hw2
            go_wp2_with fail
            clear kc
            refine (vec_yes A2 N c2 2 _ s.size cc 2 _ (str s) w2 HSRC2.out HS2.out (by omega) (by decide) (by rw [show (256 : Int) ^ 2 = 65536 from by simp]; omega)).mono ?_
            rintro e w3 ⟨rfl, hblk, hb3⟩
            have hsrc3 : Src w3 (some ⟨w2.heap.size, 0, none⟩) (N + (2 + s.size)) (enc1 zs ++ enc2 (ss.take (j + 1))) := by
              have h := src_of hblk
              have hl := HSRC2.out.1
              rw [List.length_append, List.length_append, hl, bytesOf_length, HSL.out, Nat.add_assoc] at h
              rw [HE.out, HSL.out, ← List.append_assoc, ← List.append_assoc]
              rw [List.append_assoc (enc1 zs)] at h ⊢
              exact h
            have HSRC3 := Lib.hid hsrc3
            have hbel3 : Below w1.heap.size w1 w3 := hbel.trans ((hb2.mono hbel.size).trans (hb3.mono (by have := HW2.out; have := hbel.size; omega)))
            clear hblk hb2 hb3 hsrc3
            go_wp2_with fail
            go_roundw
            case rel =>
              refine ⟨j + 1, _, _, N + (2 + s.size), by omega, by go_num, rfl, by omega, HSRC3.out, hbel3, fun x hx => ?_⟩
              rcases Hmem.out x hx with h | h
              · exact Hle.out x h
              · rw [h, HSL.out]; omega
            case measure => simp [intOf]; omega
        · obtain rfl : j = n1 := by omega
          rw [List.take_of_length_le (by rw [Hsl.out]; omega)] at hsrc Hle
          have HSRC := Lib.hid hsrc
          have Hlen2 := Lib.hid (enc2_le ss Hle.out)
          clear hsrc
          go_wp2_with fail
          refine (read_any A2 N c2 _ wr HSRC.out (by omega)).mono ?_
          rintro e w4 ⟨r, rfl, hr, hrd, hb4⟩
          have HRD := Lib.hid hrd
          have hbel4 : Below w1.heap.size w1 w4 := hbel.trans (hb4.mono hbel.size)
          have hrw : w1.heap.size ≤ r := Nat.le_trans hbel.size hr
          clear hrd hb4 hbel HSRC hr
          go_wp2_with fail
          go_loopw [12] (fun i wx => ∃ m, m ≤ k ∧ i = .int .i64 (m : Int) ∧ Rd wx r (some (enc1 (zs.drop m) ++ enc2 ss)) ∧ Below w1.heap.size w1 wx) (fun i _ => k - (intOf i).toNat)
          case atStart => exact ⟨0, Nat.zero_le _, rfl, HRD.out, hbel4⟩
          case round =>
            clear hbel4 HRD
            obtain ⟨m, hm, rfl, hrd, hbel⟩ := hrel
            by_cases hmt : m < k
            · obtain ⟨ad, rfl, hadb, hcell0⟩ := HZ.out.at_ hmt
              have hml : m < zs.length := by rw [Hzl.out]; exact hmt
              have hce : w1.cell? (ad.add m) = some (.int .u32 zs[m]) := by
                rw [hcell0, List.getElem?_map, List.getElem?_eq_getElem hml]; rfl
              have hzb := HZb.out zs[m] (List.getElem_mem _)
              have hrd' : Rd wr r (some (bytesOf zs[m] 4 ++ (enc1 (zs.drop (m + 1)) ++ enc2 ss))) := by rwa [enc1_drop zs m hml, List.append_assoc] at hrd
              have HL : Hid ((enc1 (zs.drop (m + 1)) ++ enc2 ss).length ≤ 100000) := by
                show _ ≤ _
                have := Hlen2.out
                rw [Hsl.out] at this
                rw [List.length_append, enc1_len, List.length_drop, Hzl.out]
                omega
              have HRD := Lib.hid hrd'
              generalize zs[m] = z at *
              have hcell : wr.cell? (ad.add m) = some (.int .u32 z) := (hbel.cell (by rw [block_of_add]; exact hadb)).trans hce
              have HCE := Lib.hid hce
              have HZB := Lib.hid hzb
              obtain ⟨hz0, hz1⟩ := hzb
              clear hrd hrd' hce hcell0
              generalize hR : enc1 (zs.drop (m + 1)) ++ enc2 ss = R at HL HRD
              have HR := Lib.hid hR
              clear hR
              have hwz : IntKind.i64.wrap z = z := IntWalk.i64_in _ (by omega)
              go_wp2_with fail
              go_region_with ((go_at_call 15; refine (num_u32 r z R _ (by exact HRD.out) HZB.out HL.out).mono ?_; rintro e w5 ⟨rfl, hrd5, hg5⟩; have hb5 : Below w1.heap.size w1 w5 := below_of_only (by first | exact hbel.drew | exact hbel) hg5 hbel.size hrw; have hc5 : w5.cell? (ad.add m) = some (.int .u32 z) := (hb5.cell (by rw [block_of_add]; exact hadb)).trans HCE.out; have HRD5 := Lib.hid hrd5; clear hrd5 hg5))
              all_goals
                go_wp2_with fail
                exact ⟨⟨m + 1, by omega, by go_num, by rw [HR.out]; exact HRD5.out, hb5⟩, by simp [intOf]; omega⟩
            · obtain rfl : m = k := by omega
              have hrd' : Rd wr r (some (enc2 ss)) := by rwa [List.drop_eq_nil_of_le (by rw [Hzl.out]; omega)] at hrd
              have HRD := Lib.hid hrd'
              clear hrd hrd'
              go_wp2_with fail
              go_loopw [13] (fun i wx => ∃ q, q ≤ j ∧ i = .int .i64 (q : Int) ∧ Rd wx r (some (enc2 (ss.drop q))) ∧ Below w1.heap.size w1 wx) (fun i _ => j - (intOf i).toNat)
              case atStart => exact ⟨0, Nat.zero_le _, rfl, HRD.out, hbel⟩
              case round =>
                clear hbel HRD
                obtain ⟨q, hq, rfl, hrd, hbel⟩ := hrel
                by_cases hqt : q < j
                · obtain ⟨ad, rfl, hadb, hcell0⟩ := HS.out.at_ hqt
                  have hql : q < ss.length := by rw [Hsl.out]; exact hqt
                  have hce : w1.cell? (ad.add q) = some (.string ss[q]) := by
                    rw [hcell0, List.getElem?_map, List.getElem?_eq_getElem hql]; rfl
                  have HX : Hid ((str ss[q]).length ≤ 300) := Hle.out ss[q] (List.getElem_mem _)
                  have hrd' : Rd wr r (some (bytesOf ((str ss[q]).length : Int) 2 ++ (str ss[q] ++ enc2 (ss.drop (q + 1))))) := by rwa [enc2_drop ss q hql] at hrd
                  have HL : Hid ((enc2 (ss.drop (q + 1))).length ≤ 100000) := by
                    show _ ≤ _
                    have := enc2_le (ss.drop (q + 1)) (fun s hs => Hle.out s (List.mem_of_mem_drop hs))
                    rw [List.length_drop, Hsl.out] at this
                    omega
                  have HRD := Lib.hid hrd'
                  generalize ss[q] = s at *
                  have hcell : wr.cell? (ad.add q) = some (.string s) := (hbel.cell (by rw [block_of_add]; exact hadb)).trans hce
                  have HCE := Lib.hid hce
                  have HSTR : Hid ((⟨(str s).toArray⟩ : ByteArray) = s) := by show _ = _; rw [str, Array.toArray_toList]
                  clear hrd hrd' hce hcell0
                  generalize hR : enc2 (ss.drop (q + 1)) = R at HL HRD
                  have HR := Lib.hid hR
                  clear hR
                  go_wp2_with fail
                  go_region_with ((go_at_call 19; refine (vec_str r (str s) R _ (by exact HRD.out) HX.out HL.out).mono ?_; rintro e w5 ⟨A5, c5, rfl, hs5, hrd5, hg5⟩; have hb5 : Below w1.heap.size w1 w5 := below_of_only (by first | exact hbel.drew | exact hbel) hg5 hbel.size hrw; have hc5 : w5.cell? (ad.add q) = some (.string s) := (hb5.cell (by rw [block_of_add]; exact hadb)).trans HCE.out; have kc5 := conv (c := c5) hs5; rw [HSTR.out] at kc5; have HRD5 := Lib.hid hrd5; clear hrd5 hg5 hs5))
                  all_goals
                    go_wp2_with fail
                    go_roundw
                    case rel => exact ⟨q + 1, by omega, by go_num, by rw [HR.out]; exact HRD5.out, hb5⟩
                    case measure => simp [intOf]; omega
                · obtain rfl : q = j := by omega
                  have hrd' : Rd wr r (some []) := by rwa [List.drop_eq_nil_of_le (by rw [Hsl.out]; omega)] at hrd
                  have HRD := Lib.hid hrd'
                  clear hrd hrd'
                  go_wp2_with fail
                  refine (done_any r _ wr HRD.out).mono ?_
                  rintro e w6 ⟨rfl, rfl⟩
                  rw [show doneS (some []) = true from rfl]
                  go_wp2_with fail
                  refine (bad_any r _ wr HRD.out).mono ?_
                  rintro e w6 ⟨rfl, rfl⟩
                  rw [show (some ([] : List UInt8)).isNone = false from rfl]
                  go_wp2_with fail
                  refine (left_any r _ wr HRD.out).mono ?_
                  rintro e w6 ⟨rfl, rfl⟩
                  rw [show leftS (some []) = 0 from rfl]
                  go_wp2_with fail
                  go_ret
                  exact ⟨rfl, hb1.trans (hbel.mono hb1.size)⟩

set_option maxRecDepth 100000 in
set_option linter.unusedVariables false in
theorem lifted (os : Os) (started : os.Started) (H : Type) (enc : TypeId × Value → H) :
    ReturnsInHanded {} Try.checked os 5 .any (Rows.beBackSpec.pre6 enc Try.prog Try.f5 Rows.beBackRow.domain false) (Rows.beBackSpec.post enc Try.prog Try.f5 false true false false) := by
  refine returnsInHanded_of_change (C := Try.checked) own started (by kernel_rfl) Try.func5
    (ChangeSpec.witness6 (enc := enc) (C := Try.checked) false ⟨#[], #[.slice none 0 0, .slice none 0 0], []⟩ 8 (by kernel_rfl) (by kernel_rfl) (by kernel_rfl) (by kernel_rfl)) ?_
  intro W base args ds gs before hval0 hW hcnd _
  have hval : ∀ (j : Nat) t v, Try.f5.params[j]? = some t → args[j]? = some v → Value.okWide Try.prog W .any base t v := hval0
  have hW' := hW
  obtain ⟨p, q, hA0, hV, rfl, hfz, hnd⟩ := hW
  have hA : DataW.TrodAll enc Try.prog W 0 (fun _ => true) true Try.f5.params.toList args.toList ds p := hA0
  rw [Try.params5] at hA hval
  obtain ⟨v0, vs0, d0, ds0, p0, q0, hargs, rfl, rfl, h0, r0⟩ := trodAll_cons hA
  obtain ⟨v1, vs1, d1, ds1, p1, q1, rfl, rfl, rfl, h1, r1⟩ := trodAll_cons r0
  obtain ⟨rfl, rfl, rfl⟩ := trodAll_nil r1
  obtain rfl : args = #[v0, v1] := by cases args; simp_all
  obtain ⟨rfl, rfl⟩ := trodVars_none hV
  have k0 := h0
  have lt0 : ∀ x ∈ p0, x.block < W.heap.size := by obtain ⟨m, hm⟩ := k0; exact DataW.trod_lt m _ _ _ hm
  obtain ⟨A0, n0, cap0, xs0, rfl, le0, mx0, src0⟩ := open_u32s (hval 0 40 v0 rfl rfl) h0
  have k1 := h1
  have lt1 : ∀ x ∈ p1, x.block < W.heap.size := by obtain ⟨m, hm⟩ := k1; exact DataW.trod_lt m _ _ _ hm
  obtain ⟨A1, n1, cap1, xs1, rfl, le1, mx1, src1⟩ := open_strs (hval 1 41 v1 rfl rfl) h1
  clear hA0 hval0
  refine (walk W A0 n0 cap0 xs0 le0 mx0 src0 A1 n1 cap1 xs1 le1 mx1 src1).mono fun e W' ⟨he, bel⟩ => ?_
  subst he
  exact ⟨_, rfl, _, _, _, [], _, [], hW', trodAll_mk1 (shut_bool Try.underlying4 _), (trodAll_cons_mk (Below.trod laidOut (by kernel_rfl) (of_decide_eq_true (by kernel_rfl)) k0 bel lt0) (trodAll_cons_mk (Below.trod laidOut (by kernel_rfl) (of_decide_eq_true (by kernel_rfl)) k1 bel lt1) trodAll_mk0)), rfl, bel.frame _, fun h => by cases h⟩

theorem over : Rows.beBackRow.holds Try.pinned (OpenSpec.ofChange Rows.beBackSpec) :=
  OpenClaim.holds_of_wide 5 Try.f5 rfl rfl rfl rfl rfl rfl rfl ⟨rfl, rfl, rfl, rfl, rfl⟩ rfl rfl rfl rfl rfl (by kernel_rfl) Try.func5 (by kernel_rfl)
    (of_decide_eq_true (by kernel_rfl)) (by unfold Func.isWrapper; first | (rw [if_pos (by decide +kernel)]; kernel_rfl) | (rw [if_neg (by decide +kernel)]; exact ⟨rfl, rfl⟩))
    (fun os started H enc _ => lifted os started H enc)

theorem proved : Rows.BeBackSaid := over
#print axioms proved
end Go.Proofs.Yteikjoafabldpaa.beBack
