/-
  Contract of package hello's Find over this seat's translation.
-/
import Derived.Test.YtajmdchidmamcaaHeRows
namespace Go.Proofs.Ytajmdchidmamcaa.He
open Go.RowKit Go.Proofs.Ytajmdchidmamcaa.Wd Go.Proofs.Ytajmdchidmamcaa.Be

/-- the data of the first extension of a kind -/
def findL (l : List (Int × List UInt8)) (kind : Int) : List UInt8 × Bool := match l with
  | [] => ([], false)
  | x :: l => if x.1 = kind then (x.2, true) else findL l kind
theorem findL_go {l : List Xt} {k : Nat} {x : Xt} (h : l[k]? = some x) (kind : Int) (hn : ¬ x.kind = kind) : findL ((l.drop k).map ext) kind = findL ((l.drop (k + 1)).map ext) kind := by
  obtain ⟨hk, rfl⟩ := List.getElem?_eq_some_iff.1 h
  rw [List.drop_eq_getElem_cons hk, List.map_cons, findL, if_neg (show ¬ (ext l[k]).1 = kind from hn)]
theorem findL_stop {l : List Xt} {k : Nat} {x : Xt} (h : l[k]? = some x) (kind : Int) (hn : x.kind = kind) : findL ((l.drop k).map ext) kind = (x.b, true) := by
  obtain ⟨hk, rfl⟩ := List.getElem?_eq_some_iff.1 h
  rw [List.drop_eq_getElem_cons hk, List.map_cons, findL, if_pos (show (ext l[k]).1 = kind from hn)]
  rfl
def FindPost (p : List UInt8 × Bool) (w : World) (e : Ending) (w' : World) : Prop :=
  ∃ v, e = .returned (.tuple #[v, .bool p.2]) ∧ Own w' w.heap.size v p.1 ∧ Below w.heap.size w w'

set_option maxRecDepth 100000 in
set_option maxHeartbeats 1000000 in
theorem find_any (H : Hv) (kind : Int) (w : World) (hH : H.Ok w) :
    Calls Try.prog 53 #[.agg H.C, .int .i64 kind] w (FindPost (findL H.hel.exts kind) w) := by
  have HH := Lib.hid hH
  have hr := hH.rnd
  have hx1 := hH.x1
  clear hH
  obtain ⟨R, hR⟩ : ∃ R, R = findL H.hel.exts kind := ⟨_, rfl⟩
  have HR0 := Lib.hid hR
  rw [← hR]
  clear hR
  go_enter Try.func53, Try.ntmps53
  go_upto_region 1 with fail
  have hb0 := Blk.new w 44 H.C
  have HB0 := Lib.hid ((Below.refl w.heap.size w).alloc (Nat.le_refl _) (.cells H.C 44))
  generalize w.alloc (.cells H.C 44) = w1 at *
  have hcx := cell_xs hb0 hr
  clear hb0
  obtain ⟨n, hn⟩ : ∃ n, n = H.xs.length := ⟨_, rfl⟩
  rw [← hn] at hcx hx1
  have HN := Lib.hid hn
  clear hn
  go_wp2_with fail
  go_loopw [11] (fun i wr => ∃ k, k ≤ n ∧ i = .int .i64 (k : Int) ∧ Hid (R = findL ((H.xs.drop k).map ext) kind) ∧ Hid (Below w.heap.size w wr)) (fun i _ => n - (intOf i).toNat)
  case atStart => exact ⟨0, Nat.zero_le _, rfl, Lib.hid (by rw [List.drop_zero]; exact HR0.out), HB0⟩
  case round =>
    obtain ⟨k, hk, rfl, HE, HB⟩ := hrel
    by_cases hlt : k < n
    · have hki : (k : Int) < (n : Int) := by omega
      obtain ⟨x, hx⟩ : ∃ x, H.xs[k]? = some x := ⟨_, List.getElem?_eq_getElem (by have := HN.out; omega)⟩
      obtain ⟨hok, g, o, hA, hgw, h0, h1⟩ := HH.out.xs k x hx
      rw [hA]
      have hc0 := (HB.out.cell (p := ⟨g, _, none⟩) hgw).trans h0
      have hc1 := (HB.out.cell (p := ⟨g, _, none⟩) hgw).trans h1
      have HOk := Lib.hid hok
      have hsmall := hok.small
      have HX := Lib.hid hx
      clear h0 h1 hok hx HR0 hA hcx
      go_upto_region 4 with fail
      have HZ1 := Lib.hid (Blk.new wr 53 #[Value.int .i64 x.kind, .slice x.A x.n x.c])
      have hz0 : (wr.alloc (.cells #[Value.int .i64 x.kind, .slice x.A x.n x.c] 53)).cell? ⟨wr.heap.size, 0, none⟩ = some (.int .i64 x.kind) := by rw [HZ1.out.cell]; rfl
      have hz1 : (wr.alloc (.cells #[Value.int .i64 x.kind, .slice x.A x.n x.c] 53)).cell? ⟨wr.heap.size, 1, none⟩ = some (.slice x.A x.n x.c) := by rw [HZ1.out.cell]; rfl
      have HB1 := Lib.hid (HB.out.alloc HB.out.size (.cells #[Value.int .i64 x.kind, .slice x.A x.n x.c] 53))
      clear HB hc0 hc1
      generalize wr.alloc (.cells #[Value.int .i64 x.kind, .slice x.A x.n x.c] 53) = w2 at *
      generalize wr.heap.size = z at *
      by_cases hkd : x.kind = kind
      · have HF := Lib.hid (show R = (x.b, true) by rw [HE.out]; exact findL_stop HX.out kind hkd)
        have hkb : (x.kind == kind) = true := by simpa using hkd
        clear hkd
        go_wp2_with fail
        refine (bclone_any w2 x.A x.n x.c x.b (HOk.out.src.below HB1.out) (by omega)).mono ?_
        rintro e w3 ⟨v3, rfl, ho3, hb3⟩
        have HO3 := Lib.hid ho3
        have HB3 := Lib.hid hb3
        clear ho3 hb3
        go_wp2_with fail
        go_ret2
        rw [HF.out]
        exact ⟨v3, rfl, HO3.out.lower HB1.out.size, HB1.out.trans (HB3.out.mono HB1.out.size)⟩
      · have HG := Lib.hid (show R = findL ((H.xs.drop (k + 1)).map ext) kind by rw [HE.out]; exact findL_go HX.out kind hkd)
        have hkb : (x.kind == kind) = false := by simpa using hkd
        clear hkd
        go_wp2_with fail
        go_roundw
        case rel => exact ⟨k + 1, by omega, by go_num, HG, HB1⟩
        case measure => simp [intOf]; omega
    · obtain rfl : k = n := by omega
      have HF := Lib.hid (show R = ([], false) by rw [HE.out, List.drop_eq_nil_of_le (by have := HN.out; omega)]; rfl)
      clear hcx
      go_wp2_with fail
      go_ret2
      rw [HF.out]
      exact ⟨_, rfl, ⟨rfl, .inl ⟨rfl, rfl⟩⟩, HB.out⟩
end Go.Proofs.Ytajmdchidmamcaa.He
