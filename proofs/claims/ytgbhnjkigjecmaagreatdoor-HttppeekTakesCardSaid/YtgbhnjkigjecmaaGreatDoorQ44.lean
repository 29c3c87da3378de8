/-
  Contract of the document's own All of layer 16 (hagioscoperef16) over this seat's translation: it answers what allH says.
-/
import Derived.Test.YtgbhnjkigjecmaaGreatDoorQ41
import Derived.Test.YtgbhnjkigjecmaaGreatDoorQ16
import Derived.Test.YtgbhnjkigjecmaaGreatDoorQ42
import Derived.Test.YtgbhnjkigjecmaaGreatDoorQ43
import Derived.Test.YtgbhnjkigjecmaaGreatDoorQ08
namespace Go.Proofs.YtgbhnjkigjecmaaGreatDoor.Hp
open Go.RowKit Go.Proofs.YtgbhnjkigjecmaaGreatDoor.Wd

theorem allh_bad {xs : List UInt8} {k : Nat} {c : UInt8} {w w' : World} {e : Int} (hx : xs[k]? = some c) (hz : (allH (xs.take k)).z = 0) (hs : stepH (allH (xs.take k)) c = (allH (xs.take k)).bad e) (hb : Below w.heap.size w w') :
    AllHP xs w (.returned (.agg (vH 2 2 ((k : Int) + 1) e ⟨#[]⟩ 0))) w' := by
  have h := all_end hx (by rw [hs]; show 2 ≠ 0; decide)
  rw [hs] at h
  have hk := (List.getElem?_eq_some_iff.1 hx).1
  have hu : (allH (xs.take k)).u = k := by rw [allH_used hz, List.length_take]; omega
  unfold AllHP
  rw [h]
  unfold H.bad
  rw [hu]
  exact ⟨rfl, hb⟩
theorem allh_done {xs : List UInt8} {k : Nat} {c : UInt8} {w w' : World} {n : Nat} {q : Rl.Rq} {fs : List Fd.Fld} {h : List UInt8} {p : Int} (hx : xs[k]? = some c) (hz : (allH (xs.take k)).z = 0) (hs : stepH (allH (xs.take k)) c = ⟨[], n, q, fs, 1, (allH (xs.take k)).u + 1, 0, h, p⟩) (hb : Below w.heap.size w w') :
    AllHP xs w (.returned (.agg (vH 1 2 ((k : Int) + 1) 0 ⟨h.toArray⟩ p))) w' := by
  have he := all_end hx (by rw [hs]; show 1 ≠ 0; decide)
  rw [hs] at he
  have hk := (List.getElem?_eq_some_iff.1 hx).1
  have hu : (allH (xs.take k)).u = k := by rw [allH_used hz, List.length_take]; omega
  unfold AllHP
  rw [he, hu]
  exact ⟨rfl, hb⟩
theorem allh_open {xs : List UInt8} {n : Nat} (hn : n = xs.length) {w w' : World} (hz : (allH xs).z = 0) (hb : Below w.heap.size w w') :
    AllHP xs w (.returned (.agg (vH 0 2 (n : Int) 0 ⟨#[]⟩ 0))) w' := by
  have hk := allH_ok xs
  have h2 := hk.bare (by omega)
  unfold AllHP
  rw [hz, allH_used hz, hk.op hz, h2.1, h2.2, ← hn]
  exact ⟨rfl, hb⟩
theorem vH_set (z r u : Int) (H : ByteArray) (p : Int) : ((vH z 0 0 r H p).setIfInBounds 1 (.int .i64 2)).setIfInBounds 2 (.int .i64 u) = vH z 2 u r H p := by simp [vH]
theorem cur_last {xs : List UInt8} {f j : Nat} {d : UInt8} (hx : xs[j]? = some d) (hf : f ≤ j) : (xs.take (j + 1)).drop f = (xs.take j).drop f ++ [d] := by
  have hj := (List.getElem?_eq_some_iff.1 hx).1
  rw [List.take_add_one, hx]
  exact List.drop_append_of_le_length (by rw [List.length_take]; omega)
/-- where the document's look is: its result's place in block G, the request behind it, the fields -/
structure RhAt (w : World) (G : Nat) (xs : List UInt8) (k f : Nat) (t : H) (v : Value) (wr : World) : Prop where
  rb : Blk wr G 31 #[Value.int .i64 0, .int .i64 0, .int .i64 0, .int .i64 0, .string ⟨#[]⟩, .int .i64 0, .bool false, .string ⟨#[]⟩, .slice none 0 0, .slice none 0 0, .bool false]
  qb : Blk wr (G + 1) 39 (Rl.rqC t.q)
  own : Fd.OwnF wr G v t.fs
  bel : Below G w wr
  cu : t.cur = (xs.take k).drop f
theorem RhAt.below {w wr w' : World} {G : Nat} {xs : List UInt8} {k f : Nat} {t : H} {v : Value} (h : RhAt w G xs k f t v wr) (hb : Below wr.heap.size wr w') : RhAt w G xs k f t v w' :=
  ⟨h.rb.below hb h.rb.lt, h.qb.below hb h.qb.lt, h.own.below hb (Nat.le_refl _), h.bel.trans (hb.mono (by have := h.rb.lt; omega)), h.cu⟩
theorem fold_two (x y : Value) : Array.foldl (fun (cs : Array Value) (x : Value × Nat) => cs.setIfInBounds x.snd x.fst) #[.string ⟨#[]⟩, .string ⟨#[]⟩] (#[x, y] : Array Value).zipIdx 0 (#[x, y] : Array Value).size = #[x, y] := rfl
theorem ownF_blk {w : World} {B : Nat} {v : Value} {l : List Fd.Fld} (h : Fd.OwnF w B v l) {g : Nat} (hg : v.ownBlock = some g) : ∃ cur, Blk w g 45 cur := by
  obtain ⟨hl, ⟨rfl, h0⟩ | ⟨g', cap, cur, rfl, _, hh, _⟩⟩ := h
  · cases hg
  · have e : g' = g := Option.some.inj hg
    subst e
    exact ⟨cur, hh⟩
theorem blk_own {w w' : World} {B g t : Nat} {cs : Array Value} {v : Value} {l : List Fd.Fld} (h : Blk w g t cs) (ho : Fd.OwnF w B v l) (hg : w.grownBy w' v.ownBlock) (ht : t ≠ 45) : Blk w' g t cs :=
  h.grown hg (fun e => by
    obtain ⟨cur, hb⟩ := ownF_blk ho e.symm
    exact h.ne_ hb ht rfl)
theorem ownF_off {w w' : World} {B g t : Nat} {cs : Array Value} {v : Value} {l : List Fd.Fld} (h : Fd.OwnF w B v l) (hg : w.grownBy w' (some g)) (hb : Blk w g t cs) (ht : t ≠ 45) : Fd.OwnF w' B v l := by
  obtain ⟨hl, h0 | ⟨g', cap, cur, hv, hB, hh, r⟩⟩ := h
  · exact ⟨hl, .inl h0⟩
  · have hbk : Blk w g' 45 cur := hh
    exact ⟨hl, .inr ⟨g', cap, cur, hv, hB, hbk.grown hg (fun e => by
      injection e with e
      subst e
      exact hbk.ne_ hb (fun x => ht x.symm) rfl), r⟩⟩
theorem find_few {t : H} (k : OkH t) (h : t.u ≤ 1000000) : (Fd.findS Au.hostN t.fs).1.length ≤ 1000000 := by
  rcases Fd.find_mem (nm := Au.hostN) (l := t.fs) with h1 | ⟨f, hf, h1⟩
  · rw [h1]; exact Nat.zero_le _
  · rw [← h1]
    have := (k.few f hf).2
    omega

set_option linter.unusedSimpArgs false in
set_option maxRecDepth 100000 in
set_option maxHeartbeats 32000000 in
theorem rall_any (A : Option Addr) (n cap : Nat) (xs : List UInt8) (w : World) (hs : Src w A n xs) (hn : n ≤ 1000000) (hnc : n ≤ cap) :
    Calls Tryz.prog 12 #[.slice A n cap] w (AllHP xs w) := by
  have HS := Lib.hid hs
  have hnl := hs.1
  have HNL := Lib.hid hnl
  have HNc := Lib.hid hnc
  clear hs hnl hnc
  have HA0 : Hid (RhAt w w.heap.size xs 0 0 H.st (.slice none 0 0) ((w.alloc (.cells #[Value.int .i64 0, .int .i64 0, .int .i64 0, .int .i64 0, .string ⟨#[]⟩, .int .i64 0, .bool false, .string ⟨#[]⟩, .slice none 0 0, .slice none 0 0, .bool false] 31)).alloc (.cells #[.string ⟨#[]⟩, .string ⟨#[]⟩, .int .i64 0] 39))) := Lib.hid
    ⟨(Blk.new w _ _).alloc _, St.blk_at _ _ _ _ _ (by rw [St.alloc_size]) rfl, ⟨rfl, .inl ⟨rfl, rfl⟩⟩, ((Below.refl _ _).alloc (Nat.le_refl _) _).alloc (by rw [St.alloc_size]; omega) _, rfl⟩
  go_enter Tryz.func12, Tryz.ntmps12
  go_wp2_with fail
  generalize (w.alloc (.cells #[Value.int .i64 0, .int .i64 0, .int .i64 0, .int .i64 0, .string ⟨#[]⟩, .int .i64 0, .bool false, .string ⟨#[]⟩, .slice none 0 0, .slice none 0 0, .bool false] 31)).alloc (.cells #[.string ⟨#[]⟩, .string ⟨#[]⟩, .int .i64 0] 39) = w1 at *
  obtain ⟨G, hG⟩ : ∃ G, w.heap.size = G := ⟨_, rfl⟩
  have HG := Lib.hid hG
  rw [hG] at HA0 ⊢
  clear hG
  go_loopw [4, 5, 6, 7] (fun l nn ff i wr => ∃ k f : Nat, k ≤ n ∧ f ≤ k ∧ nn = .int .i64 ((allH (xs.take k)).n : Int) ∧ ff = .int .i64 (f : Int) ∧ i = .int .i64 (k : Int) ∧ Hid ((allH (xs.take k)).z = 0) ∧ Hid (RhAt w G xs k f (allH (xs.take k)) l wr)) (fun _ _ _ i _ => n - (intOf i).toNat)
  case atStart => exact ⟨0, 0, Nat.zero_le _, Nat.le_refl _, rfl, rfl, rfl, Lib.hid rfl, HA0⟩
  case round =>
    clear HA0
    obtain ⟨k, f, hk, hfk, rfl, rfl, rfl, HZ, HA⟩ := hrel
    by_cases hlt : k < n
    case neg =>
      obtain rfl : k = n := by omega
      have ht : xs.take k = xs := List.take_of_length_le (by rw [HNL.out]; exact Nat.le_refl _)
      rw [ht] at HZ
      have HE := Lib.hid (fun (w' : World) => allh_open (w := w) (w' := w') HNL.out.symm HZ.out)
      have HRb := Lib.hid HA.out.rb
      have HBl := Lib.hid HA.out.bel
      clear ht HA
      have ck0 := HRb.out.cell 0
      have ck1 := HRb.out.cell 1
      have ck2 := HRb.out.cell 2
      have ck3 := HRb.out.cell 3
      have ck4 := HRb.out.cell 4
      have ck5 := HRb.out.cell 5
      have ck6 := HRb.out.cell 6
      have ck7 := HRb.out.cell 7
      have ck8 := HRb.out.cell 8
      have ck9 := HRb.out.cell 9
      have ck10 := HRb.out.cell 10
      have cf0 := HRb.out.frozen 0
      have cf1 := HRb.out.frozen 1
      have cf2 := HRb.out.frozen 2
      have cf3 := HRb.out.frozen 3
      have cf4 := HRb.out.frozen 4
      have cf5 := HRb.out.frozen 5
      have cf6 := HRb.out.frozen 6
      have cf7 := HRb.out.frozen 7
      have cf8 := HRb.out.frozen 8
      have cf9 := HRb.out.frozen 9
      have cf10 := HRb.out.frozen 10
      go_wp2_with fail
      obtain ⟨hbk, hgr⟩ := eleven wr G 31 _ _ _ _ _ _ _ _ _ _ _ (.int .i64 0) (.int .i64 2) (.int .i64 (k : Int)) (.int .i64 0) (.string ⟨#[]⟩) (.int .i64 0) (.bool false) (.string ⟨#[]⟩) (.slice none 0 0) (.slice none 0 0) (.bool false) HRb.out
      exact St.ret_one Tryz.results12 hbk undV rfl infV rfl rfl (HE.out _ (by rw [HG.out]; exact HBl.out.grown hgr (by rw [← HG.out]; exact HBl.out.size) (fun j hj => by injection hj with hj; omega))) rfl
    have hki : (k : Int) < (n : Int) := by omega
    obtain ⟨ad, rfl, hadb, hc⟩ := HS.out.2 (by omega)
    obtain ⟨c, hx⟩ : ∃ c, xs[k]? = some c := ⟨_, List.getElem?_eq_getElem (by have := HNL.out; omega)⟩
    have HCl := Lib.hid (fun w' (h : Below G w w') (i : Nat) (d : UInt8) (hi : xs[i]? = some d) => show w'.cell? (ad.add i) = some (.int .u8 (d.toNat : Int)) from (h.cell (by rw [block_of_add, ← HG.out]; exact hadb)).trans (hc i d hi))
    have hcell := HCl.out wr HA.out.bel k c hx
    have HX := Lib.hid hx
    have HNx := Lib.hid (allH_next hx)
    have HOk := Lib.hid (allH_ok (xs.take k))
    have HAb := Lib.hid (fun (e : Int) (w' : World) => allh_bad (w := w) (w' := w') (e := e) hx HZ.out)
    have HAd := Lib.hid (fun (m : Nat) (q : Rl.Rq) (fs : List Fd.Fld) (h : List UInt8) (p : Int) (w' : World) => allh_done (w := w) (w' := w') (n := m) (q := q) (fs := fs) (h := h) (p := p) hx HZ.out)
    have hu : (allH (xs.take k)).u = k := by rw [allH_used HZ.out, List.length_take, HNL.out]; omega
    have HU := Lib.hid hu
    have htn : (allH (xs.take k)).n ≤ 1000000 := by have := HOk.out.nu; omega
    have HFw := Lib.hid (find_few HOk.out (by omega))
    obtain ⟨t, ht⟩ : ∃ t, allH (xs.take k) = t := ⟨_, rfl⟩
    rw [ht] at HZ HA HNx HOk HAb HAd HU htn HFw
    rw [ht]
    have HStep := Lib.hid (show stepH t c = _ from by unfold stepH; rw [if_neg (show ¬ t.z ≠ 0 from fun h => h HZ.out)])
    clear hc hx ht hu
    by_cases hf0 : f = k
    · subst hf0
      have hbk : backB t = false := by
        unfold backB
        rw [HA.out.cu, List.drop_eq_nil_of_le (by rw [List.length_take]; omega)]
        rfl
      rw [hbk] at HStep
      have q1 : decide ((f : Int) < (f : Int)) = false := by simp
      clear hbk hfk
      by_cases hc10 : c = 10
      · subst hc10
        rw [if_pos (by decide)] at HStep
        have q4 : (((10 : UInt8).toNat : Int) == 10) = true := by decide
        have HV0 := Lib.hid (Blk.new wr 31 #[Value.int .i64 0, .int .i64 0, .int .i64 0, .int .i64 0, .string ⟨#[]⟩, .int .i64 0, .bool false, .string ⟨#[]⟩, .slice none 0 0, .slice none 0 0, .bool false])
        have hbv : Below wr.heap.size wr (wr.alloc (.cells #[Value.int .i64 0, .int .i64 0, .int .i64 0, .int .i64 0, .string ⟨#[]⟩, .int .i64 0, .bool false, .string ⟨#[]⟩, .slice none 0 0, .slice none 0 0, .bool false] 31)) := (Below.refl _ _).alloc (Nat.le_refl _) _
        have HAv := Lib.hid (HA.out.below hbv)
        have hgv : G < wr.heap.size := HA.out.rb.lt
        go_upto_region 13 with fail
        generalize wr.alloc (.cells #[Value.int .i64 0, .int .i64 0, .int .i64 0, .int .i64 0, .string ⟨#[]⟩, .int .i64 0, .bool false, .string ⟨#[]⟩, .slice none 0 0, .slice none 0 0, .bool false] 31) = wv at *
        obtain ⟨gv, hgv2⟩ : ∃ g, wr.heap.size = g := ⟨_, rfl⟩
        rw [hgv2] at HV0 hgv
        rw [hgv2]
        clear hbv hgv2 hcell
        have HVz := HV0
        have HRz := Lib.hid HAv.out.rb
        have HBz := Lib.hid HAv.out.bel
        have HFin := Lib.hid (HAb.out 3 · HStep.out)
        clear HV0 HAv HA HAb HAd HNx HOk HX HCl HU HStep HZ HFw
        go_upto_region 30 with (refine St.go_st 31 HVz.out infV rfl (vH_size 2 0 0 3 ⟨#[]⟩ 0) (vH_one _ _ _ _ _ _) rfl rfl rfl rfl ?_)
        have HK := Lib.hid (St.setRow_blk (new := vH 2 0 0 3 ⟨#[]⟩ 0) HVz.out)
        have hgw := St.only_row wv gv (vH 2 0 0 3 ⟨#[]⟩ 0)
        have HRv := Lib.hid (HRz.out.grown hgw (by intro e; injection e with e; omega))
        have HBv := Lib.hid (HBz.out.grown hgw (by rw [← HG.out]; exact HBz.out.size) (fun j hj => by injection hj with hj; omega))
        clear hgw HVz HRz HBz
        generalize wv.setRow gv (vH 2 0 0 3 ⟨#[]⟩ 0) = w9 at *
        have hc0 : w9.cell? ⟨gv, 0, none⟩ = some (.int .i64 2) := by rw [HK.out.cell]; rfl
        have hc1 : w9.cell? ⟨gv, 1, none⟩ = some (.int .i64 0) := by rw [HK.out.cell]; rfl
        have hc2 : w9.cell? ⟨gv, 2, none⟩ = some (.int .i64 0) := by rw [HK.out.cell]; rfl
        have hf1 := HK.out.frozen 1
        have hf2 := HK.out.frozen 2
        go_upto_region 33 with fail
        have k10 := (HK.out.set_ 1 (.int .i64 2)).set_ 2 (.int .i64 ((f : Int) + 1))
        rw [vH_set] at k10
        have hgr : w9.grownBy ((w9.setCell ⟨gv, 1, none⟩ (.int .i64 2)).setCell ⟨gv, 2, none⟩ (.int .i64 ((f : Int) + 1))) (some gv) :=
          only_setCell (p := ⟨gv, 2, none⟩) (only_setCell (p := ⟨gv, 1, none⟩) (only_refl w9 _) (.inl rfl) _) (.inl rfl) _
        have HR10 := Lib.hid (HRv.out.grown hgr (by intro e; injection e with e; omega))
        have HB10 := Lib.hid (HBv.out.grown hgr (by rw [← HG.out]; exact HBv.out.size) (fun j hj => by injection hj with hj; omega))
        clear hc1 hc2 hf1 hf2 HK HRv HBv hgr
        generalize (w9.setCell ⟨gv, 1, none⟩ (.int .i64 2)).setCell ⟨gv, 2, none⟩ (.int .i64 ((f : Int) + 1)) = w10 at *
        go_wp2_with (first | (refine St.go_ld 31 k10 undV rfl infV rfl rfl rfl rfl ?_) | (refine St.go_st 31 HR10.out infV rfl (vH_size _ _ _ _ _ _) (vH_one _ _ _ _ _ _) rfl rfl rfl rfl ?_))
        refine St.ret_one Tryz.results12 (St.setRow_blk HR10.out) undV rfl infV rfl rfl ?_ rfl
        exact HFin.out _ (by rw [HG.out]; exact St.setRow_below HB10.out HR10.out (Nat.le_refl _) _)
      · rw [if_neg (by rw [decide_eq_false hc10]; simp), if_neg hc10] at HStep
        have q4 : ((c.toNat : Int) == 10) = false := by
          rw [beq_eq_false_iff_ne]
          intro h
          exact hc10 (UInt8.toNat_inj.1 (by show c.toNat = 10; omega))
        clear hc10
        have HV0 := Lib.hid (Blk.new wr 31 #[Value.int .i64 0, .int .i64 0, .int .i64 0, .int .i64 0, .string ⟨#[]⟩, .int .i64 0, .bool false, .string ⟨#[]⟩, .slice none 0 0, .slice none 0 0, .bool false])
        have hbv : Below wr.heap.size wr (wr.alloc (.cells #[Value.int .i64 0, .int .i64 0, .int .i64 0, .int .i64 0, .string ⟨#[]⟩, .int .i64 0, .bool false, .string ⟨#[]⟩, .slice none 0 0, .slice none 0 0, .bool false] 31)) := (Below.refl _ _).alloc (Nat.le_refl _) _
        have HAv := Lib.hid (HA.out.below hbv)
        have hgv : G < wr.heap.size := HA.out.rb.lt
        go_upto_region 13 with fail
        generalize wr.alloc (.cells #[Value.int .i64 0, .int .i64 0, .int .i64 0, .int .i64 0, .string ⟨#[]⟩, .int .i64 0, .bool false, .string ⟨#[]⟩, .slice none 0 0, .slice none 0 0, .bool false] 31) = wv at *
        obtain ⟨gv, hgv2⟩ : ∃ g, wr.heap.size = g := ⟨_, rfl⟩
        rw [hgv2] at HV0 hgv
        rw [hgv2]
        clear hbv hgv2 hcell
        have hc0 : wv.cell? ⟨gv, 0, none⟩ = some (.int .i64 0) := by rw [HV0.out.cell]; rfl
        have HN2 : Hid (allH (xs.take (f + 1)) = t.next (t.cur ++ [c]) t.n t.q t.fs) := Lib.hid (by rw [HNx.out, HStep.out])
        have HCu : Hid (t.cur ++ [c] = (xs.take (f + 1)).drop f) := Lib.hid (by rw [HAv.out.cu]; exact (cur_last HX.out (Nat.le_refl _)).symm)
        go_wp2_with fail
        go_roundw
        case rel => exact ⟨f + 1, f, hlt, by omega, by rw [HN2.out]; rfl, rfl, by go_num, Lib.hid (by rw [HN2.out]; rfl), Lib.hid (by rw [HN2.out]; exact ⟨HAv.out.rb, HAv.out.qb, HAv.out.own, HAv.out.bel, HCu.out⟩)⟩
        case measure => simp [intOf]; omega
    obtain ⟨j, hj⟩ : ∃ j, k = j + 1 := ⟨k - 1, by omega⟩
    have hfj : f ≤ j := by omega
    obtain ⟨d, hd⟩ : ∃ d, xs[j]? = some d := ⟨_, List.getElem?_eq_getElem (by have := HNL.out; omega)⟩
    have hcell2 := HCl.out wr HA.out.bel j d hd
    have q1 : decide ((f : Int) < (k : Int)) = true := decide_eq_true (by omega)
    have q2 : (k : Int) - 1 = (j : Int) := by omega
    have hji : (j : Int) < (n : Int) := by omega
    have hcu : t.cur = (xs.take j).drop f ++ [d] := by rw [HA.out.cu, hj, cur_last hd hfj]
    have hbk : backB t = decide (d = 13) := by
      unfold backB
      rw [hcu, List.getLast?_append]
      simp
    have hdl : t.cur.dropLast = (xs.take j).drop f := by rw [hcu, List.dropLast_concat]
    rw [hbk, hdl] at HStep
    have HJ := Lib.hid hj
    clear hd hcu hbk hdl hj hf0
    by_cases hd : d = 13
    case neg =>
      rw [decide_eq_false hd] at HStep
      have q3 : ((d.toNat : Int) == 13) = false := by
        rw [beq_eq_false_iff_ne]
        intro h
        exact hd (UInt8.toNat_inj.1 (by show d.toNat = 13; omega))
      clear hd
      by_cases hc10 : c = 10
      · subst hc10
        rw [if_pos (by decide)] at HStep
        have q4 : (((10 : UInt8).toNat : Int) == 10) = true := by decide
        have HV0 := Lib.hid (Blk.new wr 31 #[Value.int .i64 0, .int .i64 0, .int .i64 0, .int .i64 0, .string ⟨#[]⟩, .int .i64 0, .bool false, .string ⟨#[]⟩, .slice none 0 0, .slice none 0 0, .bool false])
        have hbv : Below wr.heap.size wr (wr.alloc (.cells #[Value.int .i64 0, .int .i64 0, .int .i64 0, .int .i64 0, .string ⟨#[]⟩, .int .i64 0, .bool false, .string ⟨#[]⟩, .slice none 0 0, .slice none 0 0, .bool false] 31)) := (Below.refl _ _).alloc (Nat.le_refl _) _
        have HAv := Lib.hid (HA.out.below hbv)
        have hgv : G < wr.heap.size := HA.out.rb.lt
        go_upto_region 13 with fail
        generalize wr.alloc (.cells #[Value.int .i64 0, .int .i64 0, .int .i64 0, .int .i64 0, .string ⟨#[]⟩, .int .i64 0, .bool false, .string ⟨#[]⟩, .slice none 0 0, .slice none 0 0, .bool false] 31) = wv at *
        obtain ⟨gv, hgv2⟩ : ∃ g, wr.heap.size = g := ⟨_, rfl⟩
        rw [hgv2] at HV0 hgv
        rw [hgv2]
        clear hbv hgv2 hcell
        have HVz := HV0
        have HRz := Lib.hid HAv.out.rb
        have HBz := Lib.hid HAv.out.bel
        have HFin := Lib.hid (HAb.out 3 · HStep.out)
        clear HV0 HAv HA HAb HAd HNx HOk HX HCl HU HStep HZ HFw
        go_upto_region 30 with (refine St.go_st 31 HVz.out infV rfl (vH_size 2 0 0 3 ⟨#[]⟩ 0) (vH_one _ _ _ _ _ _) rfl rfl rfl rfl ?_)
        have HK := Lib.hid (St.setRow_blk (new := vH 2 0 0 3 ⟨#[]⟩ 0) HVz.out)
        have hgw := St.only_row wv gv (vH 2 0 0 3 ⟨#[]⟩ 0)
        have HRv := Lib.hid (HRz.out.grown hgw (by intro e; injection e with e; omega))
        have HBv := Lib.hid (HBz.out.grown hgw (by rw [← HG.out]; exact HBz.out.size) (fun j hj => by injection hj with hj; omega))
        clear hgw HVz HRz HBz
        generalize wv.setRow gv (vH 2 0 0 3 ⟨#[]⟩ 0) = w9 at *
        have hc0 : w9.cell? ⟨gv, 0, none⟩ = some (.int .i64 2) := by rw [HK.out.cell]; rfl
        have hc1 : w9.cell? ⟨gv, 1, none⟩ = some (.int .i64 0) := by rw [HK.out.cell]; rfl
        have hc2 : w9.cell? ⟨gv, 2, none⟩ = some (.int .i64 0) := by rw [HK.out.cell]; rfl
        have hf1 := HK.out.frozen 1
        have hf2 := HK.out.frozen 2
        go_upto_region 33 with fail
        have k10 := (HK.out.set_ 1 (.int .i64 2)).set_ 2 (.int .i64 ((k : Int) + 1))
        rw [vH_set] at k10
        have hgr : w9.grownBy ((w9.setCell ⟨gv, 1, none⟩ (.int .i64 2)).setCell ⟨gv, 2, none⟩ (.int .i64 ((k : Int) + 1))) (some gv) :=
          only_setCell (p := ⟨gv, 2, none⟩) (only_setCell (p := ⟨gv, 1, none⟩) (only_refl w9 _) (.inl rfl) _) (.inl rfl) _
        have HR10 := Lib.hid (HRv.out.grown hgr (by intro e; injection e with e; omega))
        have HB10 := Lib.hid (HBv.out.grown hgr (by rw [← HG.out]; exact HBv.out.size) (fun j hj => by injection hj with hj; omega))
        clear hc1 hc2 hf1 hf2 HK HRv HBv hgr
        generalize (w9.setCell ⟨gv, 1, none⟩ (.int .i64 2)).setCell ⟨gv, 2, none⟩ (.int .i64 ((k : Int) + 1)) = w10 at *
        go_wp2_with (first | (refine St.go_ld 31 k10 undV rfl infV rfl rfl rfl rfl ?_) | (refine St.go_st 31 HR10.out infV rfl (vH_size _ _ _ _ _ _) (vH_one _ _ _ _ _ _) rfl rfl rfl rfl ?_))
        refine St.ret_one Tryz.results12 (St.setRow_blk HR10.out) undV rfl infV rfl rfl ?_ rfl
        exact HFin.out _ (by rw [HG.out]; exact St.setRow_below HB10.out HR10.out (Nat.le_refl _) _)
      · rw [if_neg (by rw [decide_eq_false hc10]; simp), if_neg hc10] at HStep
        have q4 : ((c.toNat : Int) == 10) = false := by
          rw [beq_eq_false_iff_ne]
          intro h
          exact hc10 (UInt8.toNat_inj.1 (by show c.toNat = 10; omega))
        clear hc10
        have HV0 := Lib.hid (Blk.new wr 31 #[Value.int .i64 0, .int .i64 0, .int .i64 0, .int .i64 0, .string ⟨#[]⟩, .int .i64 0, .bool false, .string ⟨#[]⟩, .slice none 0 0, .slice none 0 0, .bool false])
        have hbv : Below wr.heap.size wr (wr.alloc (.cells #[Value.int .i64 0, .int .i64 0, .int .i64 0, .int .i64 0, .string ⟨#[]⟩, .int .i64 0, .bool false, .string ⟨#[]⟩, .slice none 0 0, .slice none 0 0, .bool false] 31)) := (Below.refl _ _).alloc (Nat.le_refl _) _
        have HAv := Lib.hid (HA.out.below hbv)
        have hgv : G < wr.heap.size := HA.out.rb.lt
        go_upto_region 13 with fail
        generalize wr.alloc (.cells #[Value.int .i64 0, .int .i64 0, .int .i64 0, .int .i64 0, .string ⟨#[]⟩, .int .i64 0, .bool false, .string ⟨#[]⟩, .slice none 0 0, .slice none 0 0, .bool false] 31) = wv at *
        obtain ⟨gv, hgv2⟩ : ∃ g, wr.heap.size = g := ⟨_, rfl⟩
        rw [hgv2] at HV0 hgv
        rw [hgv2]
        clear hbv hgv2 hcell
        have hc0 : wv.cell? ⟨gv, 0, none⟩ = some (.int .i64 0) := by rw [HV0.out.cell]; rfl
        have HN2 : Hid (allH (xs.take (k + 1)) = t.next (t.cur ++ [c]) t.n t.q t.fs) := Lib.hid (by rw [HNx.out, HStep.out])
        have HCu : Hid (t.cur ++ [c] = (xs.take (k + 1)).drop f) := Lib.hid (by rw [HAv.out.cu]; exact (cur_last HX.out (by omega)).symm)
        go_wp2_with fail
        go_roundw
        case rel => exact ⟨k + 1, f, hlt, by omega, by rw [HN2.out]; rfl, rfl, by go_num, Lib.hid (by rw [HN2.out]; rfl), Lib.hid (by rw [HN2.out]; exact ⟨HAv.out.rb, HAv.out.qb, HAv.out.own, HAv.out.bel, HCu.out⟩)⟩
        case measure => simp [intOf]; omega
    subst hd
    rw [decide_eq_true rfl] at HStep
    by_cases hc10 : c = 10
    case neg =>
      rw [decide_eq_false hc10, if_pos (by decide)] at HStep
      have q4 : ((c.toNat : Int) == 10) = false := by
        rw [beq_eq_false_iff_ne]
        intro h
        exact hc10 (UInt8.toNat_inj.1 (by show c.toNat = 10; omega))
      clear hc10
      have HV0 := Lib.hid (Blk.new wr 31 #[Value.int .i64 0, .int .i64 0, .int .i64 0, .int .i64 0, .string ⟨#[]⟩, .int .i64 0, .bool false, .string ⟨#[]⟩, .slice none 0 0, .slice none 0 0, .bool false])
      have hbv : Below wr.heap.size wr (wr.alloc (.cells #[Value.int .i64 0, .int .i64 0, .int .i64 0, .int .i64 0, .string ⟨#[]⟩, .int .i64 0, .bool false, .string ⟨#[]⟩, .slice none 0 0, .slice none 0 0, .bool false] 31)) := (Below.refl _ _).alloc (Nat.le_refl _) _
      have HAv := Lib.hid (HA.out.below hbv)
      have hgv : G < wr.heap.size := HA.out.rb.lt
      go_upto_region 13 with fail
      generalize wr.alloc (.cells #[Value.int .i64 0, .int .i64 0, .int .i64 0, .int .i64 0, .string ⟨#[]⟩, .int .i64 0, .bool false, .string ⟨#[]⟩, .slice none 0 0, .slice none 0 0, .bool false] 31) = wv at *
      obtain ⟨gv, hgv2⟩ : ∃ g, wr.heap.size = g := ⟨_, rfl⟩
      rw [hgv2] at HV0 hgv
      rw [hgv2]
      clear hbv hgv2 hcell
      have HVz := HV0
      have HRz := Lib.hid HAv.out.rb
      have HBz := Lib.hid HAv.out.bel
      have HFin := Lib.hid (HAb.out 3 · HStep.out)
      clear HV0 HAv HA HAb HAd HNx HOk HX HCl HU HStep HZ HFw
      go_upto_region 30 with (refine St.go_st 31 HVz.out infV rfl (vH_size 2 0 0 3 ⟨#[]⟩ 0) (vH_one _ _ _ _ _ _) rfl rfl rfl rfl ?_)
      have HK := Lib.hid (St.setRow_blk (new := vH 2 0 0 3 ⟨#[]⟩ 0) HVz.out)
      have hgw := St.only_row wv gv (vH 2 0 0 3 ⟨#[]⟩ 0)
      have HRv := Lib.hid (HRz.out.grown hgw (by intro e; injection e with e; omega))
      have HBv := Lib.hid (HBz.out.grown hgw (by rw [← HG.out]; exact HBz.out.size) (fun j hj => by injection hj with hj; omega))
      clear hgw HVz HRz HBz
      generalize wv.setRow gv (vH 2 0 0 3 ⟨#[]⟩ 0) = w9 at *
      have hc0 : w9.cell? ⟨gv, 0, none⟩ = some (.int .i64 2) := by rw [HK.out.cell]; rfl
      have hc1 : w9.cell? ⟨gv, 1, none⟩ = some (.int .i64 0) := by rw [HK.out.cell]; rfl
      have hc2 : w9.cell? ⟨gv, 2, none⟩ = some (.int .i64 0) := by rw [HK.out.cell]; rfl
      have hf1 := HK.out.frozen 1
      have hf2 := HK.out.frozen 2
      go_upto_region 33 with fail
      have k10 := (HK.out.set_ 1 (.int .i64 2)).set_ 2 (.int .i64 ((k : Int) + 1))
      rw [vH_set] at k10
      have hgr : w9.grownBy ((w9.setCell ⟨gv, 1, none⟩ (.int .i64 2)).setCell ⟨gv, 2, none⟩ (.int .i64 ((k : Int) + 1))) (some gv) :=
        only_setCell (p := ⟨gv, 2, none⟩) (only_setCell (p := ⟨gv, 1, none⟩) (only_refl w9 _) (.inl rfl) _) (.inl rfl) _
      have HR10 := Lib.hid (HRv.out.grown hgr (by intro e; injection e with e; omega))
      have HB10 := Lib.hid (HBv.out.grown hgr (by rw [← HG.out]; exact HBv.out.size) (fun j hj => by injection hj with hj; omega))
      clear hc1 hc2 hf1 hf2 HK HRv HBv hgr
      generalize (w9.setCell ⟨gv, 1, none⟩ (.int .i64 2)).setCell ⟨gv, 2, none⟩ (.int .i64 ((k : Int) + 1)) = w10 at *
      go_wp2_with (first | (refine St.go_ld 31 k10 undV rfl infV rfl rfl rfl rfl ?_) | (refine St.go_st 31 HR10.out infV rfl (vH_size _ _ _ _ _ _) (vH_one _ _ _ _ _ _) rfl rfl rfl rfl ?_))
      refine St.ret_one Tryz.results12 (St.setRow_blk HR10.out) undV rfl infV rfl rfl ?_ rfl
      exact HFin.out _ (by rw [HG.out]; exact St.setRow_below HB10.out HR10.out (Nat.le_refl _) _)
    subst hc10
    rw [decide_eq_true rfl, if_neg (by decide), if_pos rfl] at HStep
    have q3 : (((13 : UInt8).toNat : Int) == 13) = true := by decide
    have q4 : (((10 : UInt8).toNat : Int) == 10) = true := by decide
    have HV0 := Lib.hid (Blk.new wr 31 #[Value.int .i64 0, .int .i64 0, .int .i64 0, .int .i64 0, .string ⟨#[]⟩, .int .i64 0, .bool false, .string ⟨#[]⟩, .slice none 0 0, .slice none 0 0, .bool false])
    have hbv : Below wr.heap.size wr (wr.alloc (.cells #[Value.int .i64 0, .int .i64 0, .int .i64 0, .int .i64 0, .string ⟨#[]⟩, .int .i64 0, .bool false, .string ⟨#[]⟩, .slice none 0 0, .slice none 0 0, .bool false] 31)) := (Below.refl _ _).alloc (Nat.le_refl _) _
    have HAv := Lib.hid (HA.out.below hbv)
    have hgv : G < wr.heap.size := HA.out.rb.lt
    go_upto_region 13 with fail
    generalize wr.alloc (.cells #[Value.int .i64 0, .int .i64 0, .int .i64 0, .int .i64 0, .string ⟨#[]⟩, .int .i64 0, .bool false, .string ⟨#[]⟩, .slice none 0 0, .slice none 0 0, .bool false] 31) = wv at *
    obtain ⟨gv, hgv2⟩ : ∃ g, wr.heap.size = g := ⟨_, rfl⟩
    rw [hgv2] at HV0 hgv
    rw [hgv2]
    clear hbv hgv2 hcell
    obtain ⟨s, hs⟩ : ∃ s, (xs.take j).drop f = s := ⟨_, rfl⟩
    rw [hs] at HStep
    have hsr := (HS.out.below (by rw [HG.out]; exact HAv.out.bel)).cut hfj (by omega : j ≤ n) HNc.out
    rw [hs] at hsr
    have hsl : ∀ w', (Instr.sliceAt 22 (.slice (some ad) n cap) (some (.int .i64 (f : Int))) (some (.int .i64 (j : Int))) none).run Tryz.prog w' = .ok (.slice (slid (some ad) cap f) (j - f) (cap - f)) w' := fun w' => slice_mid und8 siz8 (some ad) n cap w' f j hfj (by have := HNc.out; omega)
    have hlen : s.length = j - f := hsr.1
    generalize slid (some ad) cap f = A2 at *
    generalize cap - f = c2 at *
    obtain ⟨m, hm⟩ : ∃ m, j - f = m := ⟨_, rfl⟩
    rw [hm] at hsr hsl hlen
    have hcv := Asc.conv (c := c2) hsr
    have HLn := Lib.hid hlen
    have hml : m ≤ 1000000 := by omega
    clear hm hs hsr hlen
    obtain ⟨S, hS⟩ : ∃ S, (⟨s.toArray⟩ : ByteArray) = S := ⟨_, rfl⟩
    rw [hS] at hcv
    have HSs := Lib.hid hS
    clear hS
    obtain ⟨nn, hnn⟩ : ∃ n, t.n = n := ⟨_, rfl⟩
    rw [hnn] at htn
    rw [hnn]
    have HNn := Lib.hid hnn
    clear hnn
    have HVz := HV0
    have HRz := Lib.hid HAv.out.rb
    have HQz := Lib.hid HAv.out.qb
    have HOz := Lib.hid HAv.out.own
    have HBz := Lib.hid HAv.out.bel
    clear HV0 HAv HA
    by_cases hn0 : nn = 0
    · have q5 : (((nn : Int) + 1) == 1) = true := by rw [beq_iff_eq]; omega
      have HP := Lib.hid (fun w => Rl.rparse_any s w (by have := HLn.out; omega))
      unfold Rl.ParP at HP
      obtain ⟨P, hP⟩ : ∃ P, Rl.parseS s = P := ⟨_, rfl⟩
      obtain ⟨q', e'⟩ := P
      have HSt : Hid (stepH t 10 = if e' ≠ 0 then t.bad e' else t.next [] 1 q' t.fs) := Lib.hid (by
        rw [HStep.out]
        unfold endS
        rw [if_pos (by rw [HNn.out]; exact hn0), hP])
      rw [hP] at HP
      have HStep := HSt
      have HP2 : Hid (∀ w, Calls Tryz.prog 20 #[.string S] w fun e w' => e = .returned (.tuple #[.agg (Rl.rqC q'), .int .i64 e']) ∧ Below w.heap.size w w') := Lib.hid (fun w => by rw [← HSs.out]; exact HP.out w)
      clear hP HSt HP
      go_wp2_with fail
      refine (HP2.out wv).mono ?_
      rintro e w5 ⟨rfl, hb⟩
      have HVz := Lib.hid (HVz.out.below hb HVz.out.lt)
      have HRz := Lib.hid (HRz.out.below hb HRz.out.lt)
      have HQz := Lib.hid (HQz.out.below hb HQz.out.lt)
      have HOz := Lib.hid (HOz.out.below hb (Nat.le_refl _))
      have HBz := Lib.hid (HBz.out.trans (hb.mono (by rw [← HG.out]; exact HBz.out.size)))
      clear hb HP2 hsl hcv
      go_upto_region 19 with (refine St.go_st 39 (Blk.new _ _ _) Rl.infR rfl rfl (Rl.rqC_one _) rfl rfl rfl rfl ?_)
      have k5 : Blk ((w5.alloc (.cells #[Value.string ⟨#[]⟩, .string ⟨#[]⟩, .int .i64 0] 39)).setRow w5.heap.size (Rl.rqC q')) w5.heap.size 39 (Rl.rqC q') := St.setRow_blk (Blk.new _ _ _)
      have hb : Below w5.heap.size w5 ((w5.alloc (.cells #[Value.string ⟨#[]⟩, .string ⟨#[]⟩, .int .i64 0] 39)).setRow w5.heap.size (Rl.rqC q')) := St.setRow_below ((Below.refl _ _).alloc (Nat.le_refl _) _) (Blk.new _ _ _) (Nat.le_refl _) _
      have HVz := Lib.hid (HVz.out.below hb HVz.out.lt)
      have HRz := Lib.hid (HRz.out.below hb HRz.out.lt)
      have HQz := Lib.hid (HQz.out.below hb HQz.out.lt)
      have HOz := Lib.hid (HOz.out.below hb (Nat.le_refl _))
      have HBz := Lib.hid (HBz.out.trans (hb.mono (by rw [← HG.out]; exact HBz.out.size)))
      clear hb
      generalize (w5.alloc (.cells #[Value.string ⟨#[]⟩, .string ⟨#[]⟩, .int .i64 0] 39)).setRow w5.heap.size (Rl.rqC q') = w6 at *
      generalize w5.heap.size = g5 at *
      go_upto_region 20 with (first | (refine St.go_ld 39 k5 Rl.undR rfl Rl.infR rfl rfl rfl rfl ?_) | (refine St.go_st 39 HQz.out Rl.infR rfl rfl (Rl.rqC_one _) rfl rfl rfl rfl ?_))
      have hgw := St.only_row w6 (G + 1) (Rl.rqC q')
      have HVz := Lib.hid (HVz.out.grown hgw (by intro e; injection e with e; exact HVz.out.ne_ HQz.out (by decide) e))
      have HRz := Lib.hid (HRz.out.grown hgw (by intro e; injection e with e; omega))
      have HOz := Lib.hid (ownF_off HOz.out hgw HQz.out (by decide))
      have HBz := Lib.hid (HBz.out.grown hgw (by rw [← HG.out]; exact HBz.out.size) (fun j hj => by injection hj with hj; omega))
      have HQz := Lib.hid (St.setRow_blk (new := Rl.rqC q') HQz.out)
      clear hgw k5
      generalize w6.setRow (G + 1) (Rl.rqC q') = w7 at *
      by_cases he : e' = 0
      · subst he
        rw [if_neg (by simp)] at HStep
        have hc0 : w7.cell? ⟨gv, 0, none⟩ = some (.int .i64 0) := by rw [HVz.out.cell]; rfl
        have HN2 : Hid (allH (xs.take (k + 1)) = t.next [] 1 q' t.fs) := Lib.hid (by rw [HNx.out, HStep.out])
        have HCu : Hid (([] : List UInt8) = (xs.take (k + 1)).drop (k + 1)) := Lib.hid (by rw [List.drop_eq_nil_of_le]; rw [List.length_take]; omega)
        go_wp2_with fail
        go_roundw
        case rel => exact ⟨k + 1, k + 1, hlt, Nat.le_refl _, by rw [HN2.out]; show _ = Value.int .i64 ((1 : Nat) : Int); congr 1 <;> omega, by go_num, by go_num, Lib.hid (by rw [HN2.out]; rfl), Lib.hid (by rw [HN2.out]; exact ⟨HRz.out, HQz.out, HOz.out, HBz.out, HCu.out⟩)⟩
        case measure => simp [intOf]; omega
      · rw [if_pos he] at HStep
        have f1 : (e' != 0) = true := by rw [bne_iff_ne]; exact he
        have HFin := Lib.hid (HAb.out e' · HStep.out)
        clear he HQz HOz
        go_upto_region 30 with (refine St.go_st 31 HVz.out infV rfl (vH_size 2 0 0 e' ⟨#[]⟩ 0) (vH_one _ _ _ _ _ _) rfl rfl rfl rfl ?_)
        have HK := Lib.hid (St.setRow_blk (new := vH 2 0 0 e' ⟨#[]⟩ 0) HVz.out)
        have hgw := St.only_row w7 gv (vH 2 0 0 e' ⟨#[]⟩ 0)
        have HRv := Lib.hid (HRz.out.grown hgw (by intro e; injection e with e; omega))
        have HBv := Lib.hid (HBz.out.grown hgw (by rw [← HG.out]; exact HBz.out.size) (fun j hj => by injection hj with hj; omega))
        clear hgw HVz HRz HBz
        generalize w7.setRow gv (vH 2 0 0 e' ⟨#[]⟩ 0) = w9 at *
        have hc0 : w9.cell? ⟨gv, 0, none⟩ = some (.int .i64 2) := by rw [HK.out.cell]; rfl
        have hc1 : w9.cell? ⟨gv, 1, none⟩ = some (.int .i64 0) := by rw [HK.out.cell]; rfl
        have hc2 : w9.cell? ⟨gv, 2, none⟩ = some (.int .i64 0) := by rw [HK.out.cell]; rfl
        have hf1 := HK.out.frozen 1
        have hf2 := HK.out.frozen 2
        go_upto_region 33 with fail
        have k10 := (HK.out.set_ 1 (.int .i64 2)).set_ 2 (.int .i64 ((k : Int) + 1))
        rw [vH_set] at k10
        have hgr : w9.grownBy ((w9.setCell ⟨gv, 1, none⟩ (.int .i64 2)).setCell ⟨gv, 2, none⟩ (.int .i64 ((k : Int) + 1))) (some gv) :=
          only_setCell (p := ⟨gv, 2, none⟩) (only_setCell (p := ⟨gv, 1, none⟩) (only_refl w9 _) (.inl rfl) _) (.inl rfl) _
        have HR10 := Lib.hid (HRv.out.grown hgr (by intro e; injection e with e; omega))
        have HB10 := Lib.hid (HBv.out.grown hgr (by rw [← HG.out]; exact HBv.out.size) (fun j hj => by injection hj with hj; omega))
        clear hc1 hc2 hf1 hf2 HK HRv HBv hgr
        generalize (w9.setCell ⟨gv, 1, none⟩ (.int .i64 2)).setCell ⟨gv, 2, none⟩ (.int .i64 ((k : Int) + 1)) = w10 at *
        go_wp2_with (first | (refine St.go_ld 31 k10 undV rfl infV rfl rfl rfl rfl ?_) | (refine St.go_st 31 HR10.out infV rfl (vH_size _ _ _ _ _ _) (vH_one _ _ _ _ _ _) rfl rfl rfl rfl ?_))
        refine St.ret_one Tryz.results12 (St.setRow_blk HR10.out) undV rfl infV rfl rfl ?_ rfl
        exact HFin.out _ (by rw [HG.out]; exact St.setRow_below HB10.out HR10.out (Nat.le_refl _) _)
    have q5 : (((nn : Int) + 1) == 1) = false := by rw [beq_eq_false_iff_ne]; omega
    by_cases hs0 : s = []
    · have HSt : Hid (stepH t 10 = if (judgeS t.q t.fs).2.2 ≠ 0 then t.bad (judgeS t.q t.fs).2.2 else ⟨[], t.n + 1, t.q, t.fs, 1, t.u + 1, 0, (judgeS t.q t.fs).1, (judgeS t.q t.fs).2.1⟩) := Lib.hid (by
        rw [HStep.out]
        unfold endS
        rw [if_neg (by rw [HNn.out]; exact hn0), if_pos hs0])
      have HStep := HSt
      clear HSt
      have q6 : S.toList.isEmpty = true := by rw [← HSs.out, hs0, Lib.toList_data]; rfl
      obtain ⟨A3, c3, rfl, -, hsF⟩ := HOz.out.src
      have HJu := Lib.hid (rjudge_any t.q t.fs A3 t.fs.length c3 wv hsF rfl (by have := HOk.out.fs; omega) HOk.out.qt HFw.out)
      have hbare : (judgeS t.q t.fs).2.2 ≠ 0 → (judgeS t.q t.fs).1 = [] ∧ (judgeS t.q t.fs).2.1 = 0 := judge_bare t.q t.fs
      unfold JudHP at HJu
      obtain ⟨J, hJ⟩ : ∃ J, judgeS t.q t.fs = J := ⟨_, rfl⟩
      rw [hJ] at HStep HJu hbare
      obtain ⟨jh, jp, je⟩ := J
      simp only at HStep HJu hbare
      have kq := HQz.out
      clear hJ hsF hs0 hn0
      by_cases he : je = 0
      · subst he
        rw [if_neg (by simp)] at HStep HJu
        have HFin := Lib.hid (HAd.out _ _ _ _ _ · HStep.out)
        obtain ⟨JH, hJH⟩ : ∃ H, (⟨jh.toArray⟩ : ByteArray) = H := ⟨_, rfl⟩
        rw [hJH] at HFin HJu
        clear hJH hbare
        go_wp2_with (refine St.go_ld 39 kq Rl.undR rfl Rl.infR rfl rfl rfl rfl ?_)
        refine HJu.out.mono ?_
        rintro e w5 ⟨rfl, hb⟩
        have HVz := Lib.hid (HVz.out.below hb HVz.out.lt)
        have HRz := Lib.hid (HRz.out.below hb HRz.out.lt)
        have HBz := Lib.hid (HBz.out.trans (hb.mono (by rw [← HG.out]; exact HBz.out.size)))
        clear hb kq HJu hsl hcv HQz HOz
        go_upto_region 28 with (refine St.go_st 31 HVz.out infV rfl (vH_size 1 0 0 0 JH jp) (vH_one _ _ _ _ _ _) rfl rfl rfl rfl ?_)
        have HK := Lib.hid (St.setRow_blk (new := vH 1 0 0 0 JH jp) HVz.out)
        have hgw := St.only_row w5 gv (vH 1 0 0 0 JH jp)
        have HRv := Lib.hid (HRz.out.grown hgw (by intro e; injection e with e; omega))
        have HBv := Lib.hid (HBz.out.grown hgw (by rw [← HG.out]; exact HBz.out.size) (fun j hj => by injection hj with hj; omega))
        clear hgw HVz HRz HBz
        generalize w5.setRow gv (vH 1 0 0 0 JH jp) = w9 at *
        have hc0 : w9.cell? ⟨gv, 0, none⟩ = some (.int .i64 1) := by rw [HK.out.cell]; rfl
        have hc1 : w9.cell? ⟨gv, 1, none⟩ = some (.int .i64 0) := by rw [HK.out.cell]; rfl
        have hc2 : w9.cell? ⟨gv, 2, none⟩ = some (.int .i64 0) := by rw [HK.out.cell]; rfl
        have hf1 := HK.out.frozen 1
        have hf2 := HK.out.frozen 2
        go_upto_region 33 with fail
        have k10 := (HK.out.set_ 1 (.int .i64 2)).set_ 2 (.int .i64 ((k : Int) + 1))
        rw [vH_set] at k10
        have hgr : w9.grownBy ((w9.setCell ⟨gv, 1, none⟩ (.int .i64 2)).setCell ⟨gv, 2, none⟩ (.int .i64 ((k : Int) + 1))) (some gv) :=
          only_setCell (p := ⟨gv, 2, none⟩) (only_setCell (p := ⟨gv, 1, none⟩) (only_refl w9 _) (.inl rfl) _) (.inl rfl) _
        have HR10 := Lib.hid (HRv.out.grown hgr (by intro e; injection e with e; omega))
        have HB10 := Lib.hid (HBv.out.grown hgr (by rw [← HG.out]; exact HBv.out.size) (fun j hj => by injection hj with hj; omega))
        clear hc1 hc2 hf1 hf2 HK HRv HBv hgr
        generalize (w9.setCell ⟨gv, 1, none⟩ (.int .i64 2)).setCell ⟨gv, 2, none⟩ (.int .i64 ((k : Int) + 1)) = w10 at *
        go_wp2_with (first | (refine St.go_ld 31 k10 undV rfl infV rfl rfl rfl rfl ?_) | (refine St.go_st 31 HR10.out infV rfl (vH_size _ _ _ _ _ _) (vH_one _ _ _ _ _ _) rfl rfl rfl rfl ?_))
        refine St.ret_one Tryz.results12 (St.setRow_blk HR10.out) undV rfl infV rfl rfl ?_ rfl
        exact HFin.out _ (by rw [HG.out]; exact St.setRow_below HB10.out HR10.out (Nat.le_refl _) _)
      · rw [if_pos he] at HStep HJu
        obtain ⟨rfl, rfl⟩ := hbare he
        have HFin := Lib.hid (HAb.out je · HStep.out)
        clear he hbare
        go_wp2_with (refine St.go_ld 39 kq Rl.undR rfl Rl.infR rfl rfl rfl rfl ?_)
        refine HJu.out.mono ?_
        rintro e w5 ⟨rfl, hb⟩
        have HVz := Lib.hid (HVz.out.below hb HVz.out.lt)
        have HRz := Lib.hid (HRz.out.below hb HRz.out.lt)
        have HBz := Lib.hid (HBz.out.trans (hb.mono (by rw [← HG.out]; exact HBz.out.size)))
        clear hb kq HJu hsl hcv HQz HOz
        go_upto_region 28 with (refine St.go_st 31 HVz.out infV rfl (vH_size 2 0 0 je ⟨#[]⟩ 0) (vH_one _ _ _ _ _ _) rfl rfl rfl rfl ?_)
        have HK := Lib.hid (St.setRow_blk (new := vH 2 0 0 je ⟨#[]⟩ 0) HVz.out)
        have hgw := St.only_row w5 gv (vH 2 0 0 je ⟨#[]⟩ 0)
        have HRv := Lib.hid (HRz.out.grown hgw (by intro e; injection e with e; omega))
        have HBv := Lib.hid (HBz.out.grown hgw (by rw [← HG.out]; exact HBz.out.size) (fun j hj => by injection hj with hj; omega))
        clear hgw HVz HRz HBz
        generalize w5.setRow gv (vH 2 0 0 je ⟨#[]⟩ 0) = w9 at *
        have hc0 : w9.cell? ⟨gv, 0, none⟩ = some (.int .i64 2) := by rw [HK.out.cell]; rfl
        have hc1 : w9.cell? ⟨gv, 1, none⟩ = some (.int .i64 0) := by rw [HK.out.cell]; rfl
        have hc2 : w9.cell? ⟨gv, 2, none⟩ = some (.int .i64 0) := by rw [HK.out.cell]; rfl
        have hf1 := HK.out.frozen 1
        have hf2 := HK.out.frozen 2
        go_upto_region 33 with fail
        have k10 := (HK.out.set_ 1 (.int .i64 2)).set_ 2 (.int .i64 ((k : Int) + 1))
        rw [vH_set] at k10
        have hgr : w9.grownBy ((w9.setCell ⟨gv, 1, none⟩ (.int .i64 2)).setCell ⟨gv, 2, none⟩ (.int .i64 ((k : Int) + 1))) (some gv) :=
          only_setCell (p := ⟨gv, 2, none⟩) (only_setCell (p := ⟨gv, 1, none⟩) (only_refl w9 _) (.inl rfl) _) (.inl rfl) _
        have HR10 := Lib.hid (HRv.out.grown hgr (by intro e; injection e with e; omega))
        have HB10 := Lib.hid (HBv.out.grown hgr (by rw [← HG.out]; exact HBv.out.size) (fun j hj => by injection hj with hj; omega))
        clear hc1 hc2 hf1 hf2 HK HRv HBv hgr
        generalize (w9.setCell ⟨gv, 1, none⟩ (.int .i64 2)).setCell ⟨gv, 2, none⟩ (.int .i64 ((k : Int) + 1)) = w10 at *
        go_wp2_with (first | (refine St.go_ld 31 k10 undV rfl infV rfl rfl rfl rfl ?_) | (refine St.go_st 31 HR10.out infV rfl (vH_size _ _ _ _ _ _) (vH_one _ _ _ _ _ _) rfl rfl rfl rfl ?_))
        refine St.ret_one Tryz.results12 (St.setRow_blk HR10.out) undV rfl infV rfl rfl ?_ rfl
        exact HFin.out _ (by rw [HG.out]; exact St.setRow_below HB10.out HR10.out (Nat.le_refl _) _)
    have q6 : S.toList.isEmpty = false := by
      rw [← HSs.out]
      cases hs1 : s with
      | nil => exact absurd hs1 hs0
      | cons a b => rw [Lib.toList_data]; rfl
    have HP := Lib.hid (fun w => Fd.rparse_any s w (by have := HLn.out; omega))
    unfold Fd.ParP at HP
    obtain ⟨P, hP⟩ : ∃ P, Fd.parseS s = P := ⟨_, rfl⟩
    obtain ⟨f', e'⟩ := P
    have HSt : Hid (stepH t 10 = if e' ≠ 0 then t.bad e' else if 100 < t.fs.length + 1 then t.bad 2 else t.next [] (t.n + 1) t.q (t.fs ++ [f'])) := Lib.hid (by
      rw [HStep.out]
      unfold endS
      rw [if_neg (by rw [HNn.out]; exact hn0), if_neg hs0, hP])
    rw [hP] at HP
    have HStep := HSt
    have HP2 : Hid (∀ w, Calls Tryz.prog 22 #[.string S] w fun e w' => e = .returned (.tuple #[.agg (Fd.fdC f'), .int .i64 e']) ∧ Below w.heap.size w w') := Lib.hid (fun w => by rw [← HSs.out]; exact HP.out w)
    clear hP HSt HP hs0 hn0
    go_wp2_with fail
    refine (HP2.out wv).mono ?_
    rintro e w5 ⟨rfl, hb⟩
    have HVz := Lib.hid (HVz.out.below hb HVz.out.lt)
    have HRz := Lib.hid (HRz.out.below hb HRz.out.lt)
    have HQz := Lib.hid (HQz.out.below hb HQz.out.lt)
    have HOz := Lib.hid (HOz.out.below hb (Nat.le_refl _))
    have HBz := Lib.hid (HBz.out.trans (hb.mono (by rw [← HG.out]; exact HBz.out.size)))
    clear hb HP2 hsl hcv
    go_upto_region 24 with (refine St.go_st 45 (Blk.new _ _ _) Fd.infF rfl rfl (Fd.fdC_one _) rfl rfl rfl rfl ?_)
    have k5 : Blk ((w5.alloc (.cells #[Value.string ⟨#[]⟩, .string ⟨#[]⟩] 45)).setRow w5.heap.size (Fd.fdC f')) w5.heap.size 45 #[.string ⟨f'.name.toArray⟩, .string ⟨f'.text.toArray⟩] := St.setRow_blk (Blk.new _ _ _)
    have hb : Below w5.heap.size w5 ((w5.alloc (.cells #[Value.string ⟨#[]⟩, .string ⟨#[]⟩] 45)).setRow w5.heap.size (Fd.fdC f')) := St.setRow_below ((Below.refl _ _).alloc (Nat.le_refl _) _) (Blk.new _ _ _) (Nat.le_refl _) _
    have HVz := Lib.hid (HVz.out.below hb HVz.out.lt)
    have HRz := Lib.hid (HRz.out.below hb HRz.out.lt)
    have HQz := Lib.hid (HQz.out.below hb HQz.out.lt)
    have HOz := Lib.hid (HOz.out.below hb (Nat.le_refl _))
    have HBz := Lib.hid (HBz.out.trans (hb.mono (by rw [← HG.out]; exact HBz.out.size)))
    clear hb
    generalize (w5.alloc (.cells #[Value.string ⟨#[]⟩, .string ⟨#[]⟩] 45)).setRow w5.heap.size (Fd.fdC f') = w6 at *
    generalize w5.heap.size = g5 at *
    have hfl : t.fs.length ≤ 100 := HOk.out.fs
    obtain ⟨A3, c3, hl3, -, -⟩ := HOz.out.src
    subst hl3
    have hb7 : Below w6.heap.size w6 (w6.alloc (.cells #[.string ⟨f'.name.toArray⟩, .string ⟨f'.text.toArray⟩] 45)) := (Below.refl _ _).alloc (Nat.le_refl _) _
    have HOa := Lib.hid (HOz.out.below hb7 (Nat.le_refl _))
    have HVa := Lib.hid (HVz.out.below hb7 HVz.out.lt)
    have HRa := Lib.hid (HRz.out.below hb7 HRz.out.lt)
    have HQa := Lib.hid (HQz.out.below hb7 HQz.out.lt)
    have HBa := Lib.hid (HBz.out.trans (hb7.mono (by rw [← HG.out]; exact HBz.out.size)))
    have HSa := Lib.hid (Fd.SrcF.one f' (Blk.new w6 45 #[.string ⟨f'.name.toArray⟩, .string ⟨f'.text.toArray⟩]))
    clear hb7 HVz HRz HQz HOz HBz
    go_upto_region 25 with (first
      | (refine St.go_ld 45 k5 Fd.undF rfl Fd.infF rfl rfl rfl rfl ?_)
      | (try rw [fold_two]
         refine Fd.wpList_appF rfl (.tmp 75) (.tmp 77) rfl G (.slice A3 t.fs.length c3) t.fs rfl HOa.out (some ⟨w6.heap.size, 0, none⟩) 1 1 [f'] rfl rfl HSa.out (by rw [List.length_singleton]; omega) (by rw [← HG.out]; exact HBa.out.size) ?_
         intro v7 w7 ho7 hg7))
    have HVz := Lib.hid (blk_own HVa.out HOa.out hg7.out (by decide))
    have HRz := Lib.hid (blk_own HRa.out HOa.out hg7.out (by decide))
    have HQz := Lib.hid (blk_own HQa.out HOa.out hg7.out (by decide))
    have HOz := ho7
    have HBz := Lib.hid (HBa.out.grown hg7.out (by rw [← HG.out]; exact HBa.out.size) (fun j hj => (HOa.out.ge j hj).1))
    clear hg7 HOa HVa HRa HQa HBa HSa k5 ho7
    obtain ⟨A7, c7, hl7, -, -⟩ := HOz.out.src
    have hln : (t.fs ++ [f']).length = t.fs.length + 1 := by rw [List.length_append]; rfl
    rw [hln] at hl7
    subst hl7
    obtain ⟨nf, hnf⟩ : ∃ n, t.fs.length = n := ⟨_, rfl⟩
    rw [hnf] at hfl HStep HOz
    rw [hnf]
    clear hln hnf
    by_cases he : e' = 0
    case neg =>
      rw [if_pos he] at HStep
      have f0 : (e' == 0) = false := by rw [beq_eq_false_iff_ne]; exact he
      have f1 : (e' != 0) = true := by rw [bne_iff_ne]; exact he
      have HFin := Lib.hid (HAb.out e' · HStep.out)
      clear he HQz HOz
      go_upto_region 30 with (refine St.go_st 31 HVz.out infV rfl (vH_size 2 0 0 e' ⟨#[]⟩ 0) (vH_one _ _ _ _ _ _) rfl rfl rfl rfl ?_)
      have HK := Lib.hid (St.setRow_blk (new := vH 2 0 0 e' ⟨#[]⟩ 0) HVz.out)
      have hgw := St.only_row w7 gv (vH 2 0 0 e' ⟨#[]⟩ 0)
      have HRv := Lib.hid (HRz.out.grown hgw (by intro e; injection e with e; omega))
      have HBv := Lib.hid (HBz.out.grown hgw (by rw [← HG.out]; exact HBz.out.size) (fun j hj => by injection hj with hj; omega))
      clear hgw HVz HRz HBz
      generalize w7.setRow gv (vH 2 0 0 e' ⟨#[]⟩ 0) = w9 at *
      have hc0 : w9.cell? ⟨gv, 0, none⟩ = some (.int .i64 2) := by rw [HK.out.cell]; rfl
      have hc1 : w9.cell? ⟨gv, 1, none⟩ = some (.int .i64 0) := by rw [HK.out.cell]; rfl
      have hc2 : w9.cell? ⟨gv, 2, none⟩ = some (.int .i64 0) := by rw [HK.out.cell]; rfl
      have hf1 := HK.out.frozen 1
      have hf2 := HK.out.frozen 2
      go_upto_region 33 with fail
      have k10 := (HK.out.set_ 1 (.int .i64 2)).set_ 2 (.int .i64 ((k : Int) + 1))
      rw [vH_set] at k10
      have hgr : w9.grownBy ((w9.setCell ⟨gv, 1, none⟩ (.int .i64 2)).setCell ⟨gv, 2, none⟩ (.int .i64 ((k : Int) + 1))) (some gv) :=
        only_setCell (p := ⟨gv, 2, none⟩) (only_setCell (p := ⟨gv, 1, none⟩) (only_refl w9 _) (.inl rfl) _) (.inl rfl) _
      have HR10 := Lib.hid (HRv.out.grown hgr (by intro e; injection e with e; omega))
      have HB10 := Lib.hid (HBv.out.grown hgr (by rw [← HG.out]; exact HBv.out.size) (fun j hj => by injection hj with hj; omega))
      clear hc1 hc2 hf1 hf2 HK HRv HBv hgr
      generalize (w9.setCell ⟨gv, 1, none⟩ (.int .i64 2)).setCell ⟨gv, 2, none⟩ (.int .i64 ((k : Int) + 1)) = w10 at *
      go_wp2_with (first | (refine St.go_ld 31 k10 undV rfl infV rfl rfl rfl rfl ?_) | (refine St.go_st 31 HR10.out infV rfl (vH_size _ _ _ _ _ _) (vH_one _ _ _ _ _ _) rfl rfl rfl rfl ?_))
      refine St.ret_one Tryz.results12 (St.setRow_blk HR10.out) undV rfl infV rfl rfl ?_ rfl
      exact HFin.out _ (by rw [HG.out]; exact St.setRow_below HB10.out HR10.out (Nat.le_refl _) _)
    subst he
    rw [if_neg (by simp)] at HStep
    by_cases hfu : 100 < nf + 1
    · rw [if_pos hfu] at HStep
      have f2 : decide ((100 : Int) < (nf : Int) + 1) = true := decide_eq_true (by omega)
      have HFin := Lib.hid (HAb.out 2 · HStep.out)
      clear hfu HQz HOz
      go_upto_region 30 with (refine St.go_st 31 HVz.out infV rfl (vH_size 2 0 0 2 ⟨#[]⟩ 0) (vH_one _ _ _ _ _ _) rfl rfl rfl rfl ?_)
      have HK := Lib.hid (St.setRow_blk (new := vH 2 0 0 2 ⟨#[]⟩ 0) HVz.out)
      have hgw := St.only_row w7 gv (vH 2 0 0 2 ⟨#[]⟩ 0)
      have HRv := Lib.hid (HRz.out.grown hgw (by intro e; injection e with e; omega))
      have HBv := Lib.hid (HBz.out.grown hgw (by rw [← HG.out]; exact HBz.out.size) (fun j hj => by injection hj with hj; omega))
      clear hgw HVz HRz HBz
      generalize w7.setRow gv (vH 2 0 0 2 ⟨#[]⟩ 0) = w9 at *
      have hc0 : w9.cell? ⟨gv, 0, none⟩ = some (.int .i64 2) := by rw [HK.out.cell]; rfl
      have hc1 : w9.cell? ⟨gv, 1, none⟩ = some (.int .i64 0) := by rw [HK.out.cell]; rfl
      have hc2 : w9.cell? ⟨gv, 2, none⟩ = some (.int .i64 0) := by rw [HK.out.cell]; rfl
      have hf1 := HK.out.frozen 1
      have hf2 := HK.out.frozen 2
      go_upto_region 33 with fail
      have k10 := (HK.out.set_ 1 (.int .i64 2)).set_ 2 (.int .i64 ((k : Int) + 1))
      rw [vH_set] at k10
      have hgr : w9.grownBy ((w9.setCell ⟨gv, 1, none⟩ (.int .i64 2)).setCell ⟨gv, 2, none⟩ (.int .i64 ((k : Int) + 1))) (some gv) :=
        only_setCell (p := ⟨gv, 2, none⟩) (only_setCell (p := ⟨gv, 1, none⟩) (only_refl w9 _) (.inl rfl) _) (.inl rfl) _
      have HR10 := Lib.hid (HRv.out.grown hgr (by intro e; injection e with e; omega))
      have HB10 := Lib.hid (HBv.out.grown hgr (by rw [← HG.out]; exact HBv.out.size) (fun j hj => by injection hj with hj; omega))
      clear hc1 hc2 hf1 hf2 HK HRv HBv hgr
      generalize (w9.setCell ⟨gv, 1, none⟩ (.int .i64 2)).setCell ⟨gv, 2, none⟩ (.int .i64 ((k : Int) + 1)) = w10 at *
      go_wp2_with (first | (refine St.go_ld 31 k10 undV rfl infV rfl rfl rfl rfl ?_) | (refine St.go_st 31 HR10.out infV rfl (vH_size _ _ _ _ _ _) (vH_one _ _ _ _ _ _) rfl rfl rfl rfl ?_))
      refine St.ret_one Tryz.results12 (St.setRow_blk HR10.out) undV rfl infV rfl rfl ?_ rfl
      exact HFin.out _ (by rw [HG.out]; exact St.setRow_below HB10.out HR10.out (Nat.le_refl _) _)
    rw [if_neg hfu, HNn.out] at HStep
    have f2 : decide ((100 : Int) < (nf : Int) + 1) = false := decide_eq_false (by omega)
    clear hfu
    have hc0 : w7.cell? ⟨gv, 0, none⟩ = some (.int .i64 0) := by rw [HVz.out.cell]; rfl
    have HN2 : Hid (allH (xs.take (k + 1)) = t.next [] (nn + 1) t.q (t.fs ++ [f'])) := Lib.hid (by rw [HNx.out, HStep.out])
    have HCu : Hid (([] : List UInt8) = (xs.take (k + 1)).drop (k + 1)) := Lib.hid (by rw [List.drop_eq_nil_of_le]; rw [List.length_take]; omega)
    go_wp2_with fail
    go_roundw
    case rel => exact ⟨k + 1, k + 1, hlt, Nat.le_refl _, by rw [HN2.out]; show _ = Value.int .i64 (((nn + 1) : Nat) : Int); congr 1 <;> omega, by go_num, by go_num, Lib.hid (by rw [HN2.out]; rfl), Lib.hid (by rw [HN2.out]; exact ⟨HRz.out, HQz.out, HOz.out, HBz.out, HCu.out⟩)⟩
    case measure => simp [intOf]; omega
end Go.Proofs.YtgbhnjkigjecmaaGreatDoor.Hp
