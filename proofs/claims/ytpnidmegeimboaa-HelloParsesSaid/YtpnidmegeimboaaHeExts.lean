/-
  Contract of package hello's exts over this seat's translation.
-/
import Derived.Test.YtpnidmegeimboaaHeNums
namespace Go.Proofs.Ytpnidmegeimboaa.He
open Go.RowKit Go.Proofs.Ytpnidmegeimboaa.Wd Go.Proofs.Ytpnidmegeimboaa.Be

def extW (r : List UInt8 × Bool) (x : Int × List UInt8) : List UInt8 × Bool := vecW 2 (numW r x.1) x.2
/-- extensions, till what is laid can't be told any more -/
def extsW (r : List UInt8 × Bool) : List (Int × List UInt8) → List UInt8 × Bool
  | [] => r
  | x :: l => if (extW r x).2 = true ∨ 65535 < (extW r x).1.length then extW r x else extsW (extW r x) l
theorem vecW_len (r : List UInt8 × Bool) (x : List UInt8) : (vecW 2 r x).1.length ≤ r.1.length + 65537 := by
  unfold vecW
  split
  · rename_i h
    have e : (256 : Int) ^ 2 = 65536 := rfl
    rw [List.length_append, vecB_len]
    omega
  · simp
theorem extsW_go {l : List Xt} {k : Nat} {x : Xt} (h : l[k]? = some x) (r : List UInt8 × Bool) (hn : ¬ ((extW r (ext x)).2 = true ∨ 65535 < (extW r (ext x)).1.length)) : extsW r ((l.drop k).map ext) = extsW (extW r (ext x)) ((l.drop (k + 1)).map ext) := by
  obtain ⟨hk, rfl⟩ := List.getElem?_eq_some_iff.1 h
  rw [List.drop_eq_getElem_cons hk, List.map_cons, extsW, if_neg hn]
theorem extsW_stop {l : List Xt} {k : Nat} {x : Xt} (h : l[k]? = some x) (r : List UInt8 × Bool) (hn : (extW r (ext x)).2 = true ∨ 65535 < (extW r (ext x)).1.length) : extsW r ((l.drop k).map ext) = extW r (ext x) := by
  obtain ⟨hk, rfl⟩ := List.getElem?_eq_some_iff.1 h
  rw [List.drop_eq_getElem_cons hk, List.map_cons, extsW, if_pos hn]

set_option maxRecDepth 100000 in
set_option maxHeartbeats 1000000 in
theorem exts_any (A : Option Addr) (n c : Nat) (l : List Xt) (w : World) (hn : l.length = n) (hm : n ≤ 100000) (hs : SrcX w A l) :
    Calls Try.prog 27 #[.slice A n c] w (RowRet (extsW ([], false) (l.map ext)) w) := by
  have HS := Lib.hid hs
  have HN := Lib.hid hn
  clear hs hn
  obtain ⟨R, hR⟩ : ∃ R, R = extsW ([], false) (l.map ext) := ⟨_, rfl⟩
  have HR0 := Lib.hid hR
  rw [← hR]
  clear hR
  go_enter Try.func27, Try.ntmps27
  go_wp2_with fail
  go_loopw [8] (fun i wr => ∃ k p r, k ≤ n ∧ i = .int .i64 (k : Int) ∧ r.1.length ≤ 65535 ∧ Hid (R = extsW r ((l.drop k).map ext)) ∧ Hid (RowAt w p r wr)) (fun i _ => n - (intOf i).toNat)
  case atStart =>
    exact ⟨0, none, ([], false), Nat.zero_le _, rfl, by simp, Lib.hid (by rw [List.drop_zero]; exact HR0.out), Lib.hid ⟨⟨⟨0, blk_at _ _ _ _ _ (by rw [alloc_size]) rfl, At.nil _⟩, (fun q h => by cases h), by omega⟩, (Blk.new _ _ _).alloc _, ((Below.refl _ _).alloc (Nat.le_refl _) _).alloc (by simp) _⟩⟩
  case round =>
    obtain ⟨k, p, r, hk, rfl, hrl, HE, HR⟩ := hrel
    by_cases hlt : k < n
    · have hki : (k : Int) < (n : Int) := by omega
      obtain ⟨x, hx⟩ : ∃ x, l[k]? = some x := ⟨_, List.getElem?_eq_getElem (by have := HN.out; omega)⟩
      obtain ⟨hok, g, o, rfl, hgw, h0, h1⟩ := HS.out k x hx
      have hc0 := (HR.out.bel.cell (p := ⟨g, _, none⟩) hgw).trans h0
      have hc1 := (HR.out.bel.cell (p := ⟨g, _, none⟩) hgw).trans h1
      have HOk := Lib.hid hok
      have hsmall := hok.small
      have HX := Lib.hid hx
      clear h0 h1 hok hx HR0
      go_upto_region 5 with fail
      have HR1 := Lib.hid (HR.out.more ((Below.refl _ _).alloc (Nat.le_refl _) (.cells #[Value.int .i64 x.kind, .slice x.A x.n x.c] 42)))
      have HZ1 := Lib.hid (Blk.new wr 42 #[Value.int .i64 x.kind, .slice x.A x.n x.c])
      have hz0 : (wr.alloc (.cells #[Value.int .i64 x.kind, .slice x.A x.n x.c] 42)).cell? ⟨wr.heap.size, 0, none⟩ = some (.int .i64 x.kind) := by rw [HZ1.out.cell]; rfl
      clear HR hc0 hc1
      have hzlt := HZ1.out.lt
      generalize wr.alloc (.cells #[Value.int .i64 x.kind, .slice x.A x.n x.c] 42) = w1 at *
      generalize wr.heap.size = z at *
      go_wp2_with fail
      refine (rwnum_any HR1.out.rw_ x.kind (by omega)).mono ?_
      rintro e w2 ⟨rfl, p2, r2, -, u2⟩
      have hrl2 := numW_len r x.kind
      have HZ2 := Lib.hid (HZ1.out.but u2 (by
        intro hm
        obtain ⟨c, hb, ha⟩ := HR1.out.rw_.blk
        rcases List.mem_cons.1 hm with e | e
        · exact hb.ne_ HZ1.out (by decide) e.symm
        · exact ha.ne HZ1.out (by decide) (Option.mem_toList.1 e)))
      have HR2 := Lib.hid (HR1.out.post r2 u2)
      have hz1 : w2.cell? ⟨z, 1, none⟩ = some (.slice x.A x.n x.c) := by rw [HZ2.out.cell]; rfl
      have HSx := Lib.hid (HOk.out.src.below HR2.out.bel)
      clear r2 u2 HR1 HZ1 hz0 hzlt
      obtain ⟨y, hy⟩ : ∃ y, y = numW r x.kind := ⟨_, rfl⟩
      rw [← hy] at hrl2 HR2
      go_wp2_with fail
      refine (rwvec_any HR2.out.rw_ 2 2 (by decide) (by omega) x.A x.n x.c x.b HSx.out (by omega) (by omega)).mono ?_
      rintro e w3 ⟨rfl, p3, r3, -, u3⟩
      have HR3 := Lib.hid (HR2.out.post r3 u3)
      rw [hy] at HR3
      have HR4 := Lib.hid (show RowAt w p3 (extW r (ext x)) w3 from HR3.out)
      have hgo := extsW_go HX.out r
      have hstop := extsW_stop HX.out r
      have HGo := Lib.hid hgo
      have HStop := Lib.hid hstop
      clear r3 u3 HR2 HR3 hz1 HSx hy hrl2 hgo hstop HZ2 HOk HX hsmall
      generalize extW r (ext x) = a at *
      clear y
      obtain ⟨c1, hb, ha⟩ := HR4.out.rw_.blk
      have hpB := HR4.out.rw_.pB
      have hc0 : w3.cell? ⟨w.heap.size + 1, 0, none⟩ = some (.slice (ad p3) a.1.length c1) := by rw [hb.cell]; rfl
      have hc1 : w3.cell? ⟨w.heap.size + 1, 1, none⟩ = some (.bool a.2) := by rw [hb.cell]; rfl
      have HA := Lib.hid ha
      have HP := Lib.hid hpB
      clear hb ha hpB
      by_cases ha2 : a.2 = true
      · have HF := Lib.hid (show R = a by rw [HE.out]; exact HStop.out (.inl ha2))
        rw [ha2] at hc1
        have hf0 := HR4.out.res.frozen 0
        have hf1 := HR4.out.res.frozen 1
        have hd0 : w3.cell? ⟨w.heap.size, 0, none⟩ = some (.slice none 0 0) := by rw [HR4.out.res.cell]; rfl
        have hd1 : w3.cell? ⟨w.heap.size, 1, none⟩ = some (.bool false) := by rw [HR4.out.res.cell]; rfl
        go_wp2_with fail
        have hres : Blk ((w3.setCell ⟨w.heap.size, 0, none⟩ (.slice (ad p3) a.1.length c1)).setCell ⟨w.heap.size, 1, none⟩ (.bool true)) w.heap.size 49 #[.slice (ad p3) a.1.length c1, .bool true] := by
          have h := (HR4.out.res.set_ 0 (.slice (ad p3) a.1.length c1)).set_ 1 (.bool true)
          rw [set2_0, set2_1] at h
          exact h
        have hbt : But [w.heap.size] w3 ((w3.setCell ⟨w.heap.size, 0, none⟩ (.slice (ad p3) a.1.length c1)).setCell ⟨w.heap.size, 1, none⟩ (.bool true)) := ((But.refl _ _).set_ (p := ⟨w.heap.size, 0, none⟩) (.inl (by simp)) _).set_ (p := ⟨w.heap.size, 1, none⟩) (.inl (by simp)) _
        exact ret_cell Try.results27 hres undR rfl infR rfl rfl ⟨p3, c1, by rw [HF.out, ha2], by rw [HF.out]; exact HA.out.but hbt (fun b e hm => HA.out.ne HR4.out.res (by decide) (by rw [e, List.mem_singleton.1 hm])), HP.out, (HR4.out.bel.setCell (p := ⟨w.heap.size, 0, none⟩) (Nat.le_refl _) _).setCell (p := ⟨w.heap.size, 1, none⟩) (Nat.le_refl _) _⟩ rfl
      · have ha2' : a.2 = false := by simpa using ha2
        rw [ha2'] at hc1
        by_cases ha3 : 65535 < a.1.length
        · have HF := Lib.hid (show R = a by rw [HE.out]; exact HStop.out (.inr ha3))
          have ha3' : decide ((65535 : Int) < (a.1.length : Int)) = true := decide_eq_true (by omega)
          have hf0 := HR4.out.res.frozen 0
          have hf1 := HR4.out.res.frozen 1
          have hd0 : w3.cell? ⟨w.heap.size, 0, none⟩ = some (.slice none 0 0) := by rw [HR4.out.res.cell]; rfl
          have hd1 : w3.cell? ⟨w.heap.size, 1, none⟩ = some (.bool false) := by rw [HR4.out.res.cell]; rfl
          go_wp2_with fail
          have hres : Blk ((w3.setCell ⟨w.heap.size, 0, none⟩ (.slice (ad p3) a.1.length c1)).setCell ⟨w.heap.size, 1, none⟩ (.bool false)) w.heap.size 49 #[.slice (ad p3) a.1.length c1, .bool false] := by
            have h := (HR4.out.res.set_ 0 (.slice (ad p3) a.1.length c1)).set_ 1 (.bool false)
            rw [set2_0, set2_1] at h
            exact h
          have hbt : But [w.heap.size] w3 ((w3.setCell ⟨w.heap.size, 0, none⟩ (.slice (ad p3) a.1.length c1)).setCell ⟨w.heap.size, 1, none⟩ (.bool false)) := ((But.refl _ _).set_ (p := ⟨w.heap.size, 0, none⟩) (.inl (by simp)) _).set_ (p := ⟨w.heap.size, 1, none⟩) (.inl (by simp)) _
          exact ret_cell Try.results27 hres undR rfl infR rfl rfl ⟨p3, c1, by rw [HF.out, ha2'], by rw [HF.out]; exact HA.out.but hbt (fun b e hm => HA.out.ne HR4.out.res (by decide) (by rw [e, List.mem_singleton.1 hm])), HP.out, (HR4.out.bel.setCell (p := ⟨w.heap.size, 0, none⟩) (Nat.le_refl _) _).setCell (p := ⟨w.heap.size, 1, none⟩) (Nat.le_refl _) _⟩ rfl
        · have HE2 := Lib.hid (show R = extsW a ((l.drop (k + 1)).map ext) by rw [HE.out]; exact HGo.out (by rintro (h | h); exact ha2 h; exact ha3 h))
          have ha3' : decide ((65535 : Int) < (a.1.length : Int)) = false := decide_eq_false (by omega)
          go_wp2_with fail
          go_roundw
          case rel => exact ⟨k + 1, p3, a, by omega, by go_num, by omega, HE2, HR4⟩
          case measure => simp [intOf]; omega
    · obtain rfl : k = n := by omega
      have HF := Lib.hid (show R = r by rw [HE.out, List.drop_eq_nil_of_le (by have := HN.out; omega)]; rfl)
      obtain ⟨c1, hb, ha⟩ := HR.out.rw_.blk
      have hpB := HR.out.rw_.pB
      have hc0 : wr.cell? ⟨w.heap.size + 1, 0, none⟩ = some (.slice (ad p) r.1.length c1) := by rw [hb.cell]; rfl
      have hc1 : wr.cell? ⟨w.heap.size + 1, 1, none⟩ = some (.bool r.2) := by rw [hb.cell]; rfl
      have HA := Lib.hid ha
      have HP := Lib.hid hpB
      clear hb ha hpB
      have hf0 := HR.out.res.frozen 0
      have hf1 := HR.out.res.frozen 1
      have hd0 : wr.cell? ⟨w.heap.size, 0, none⟩ = some (.slice none 0 0) := by rw [HR.out.res.cell]; rfl
      have hd1 : wr.cell? ⟨w.heap.size, 1, none⟩ = some (.bool false) := by rw [HR.out.res.cell]; rfl
      go_wp2_with fail
      have hres : Blk ((wr.setCell ⟨w.heap.size, 0, none⟩ (.slice (ad p) r.1.length c1)).setCell ⟨w.heap.size, 1, none⟩ (.bool r.2)) w.heap.size 49 #[.slice (ad p) r.1.length c1, .bool r.2] := by
        have h := (HR.out.res.set_ 0 (.slice (ad p) r.1.length c1)).set_ 1 (.bool r.2)
        rw [set2_0, set2_1] at h
        exact h
      have hbt : But [w.heap.size] wr ((wr.setCell ⟨w.heap.size, 0, none⟩ (.slice (ad p) r.1.length c1)).setCell ⟨w.heap.size, 1, none⟩ (.bool r.2)) := ((But.refl _ _).set_ (p := ⟨w.heap.size, 0, none⟩) (.inl (by simp)) _).set_ (p := ⟨w.heap.size, 1, none⟩) (.inl (by simp)) _
      exact ret_cell Try.results27 hres undR rfl infR rfl rfl ⟨p, c1, by rw [HF.out], by rw [HF.out]; exact HA.out.but hbt (fun b e hm => HA.out.ne HR.out.res (by decide) (by rw [e, List.mem_singleton.1 hm])), HP.out, (HR.out.bel.setCell (p := ⟨w.heap.size, 0, none⟩) (Nat.le_refl _) _).setCell (p := ⟨w.heap.size, 1, none⟩) (Nat.le_refl _) _⟩ rfl
end Go.Proofs.Ytpnidmegeimboaa.He
