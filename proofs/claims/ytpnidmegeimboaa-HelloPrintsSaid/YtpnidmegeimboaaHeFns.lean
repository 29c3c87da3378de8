/-
  Contracts of package hello's twice, wrong, Find over this seat's translation.
-/
import Derived.Test.YtpnidmegeimboaaHeMem
import Derived.Maps.OwnSet
import Derived.Maps.Views
import Derived.Deep.Cut
namespace Go.Proofs.Ytpnidmegeimboaa.He
open Go.RowKit Go.Proofs.Ytpnidmegeimboaa.Wd Go.Proofs.Ytpnidmegeimboaa.Be Go.Maps

theorem keyed : Keyed Try.prog 3 := int_keyed Try.underlying3
theorem undM : Try.prog.underlying 78 = some (.map 3 79) := by kernel_rfl
theorem zeroU (w : World) : (zeroValue 79).run Try.prog w = .ok (.agg #[]) w := by kernel_rfl
theorem key_int (n : Int) (h : -9223372036854775808 ≤ n ∧ n ≤ 9223372036854775807) : keyOf Try.prog 3 (.int .i64 n) = some (.int .i64 n) :=
  keyOf_int_mk Try.underlying3 (WalkArith.wf_i64 h)
theorem owns_on {w w' : World} {b n : Nat} {D : DataW Unit} (h : w.ownsMap Try.prog 3 (unitElem (H := Unit)) b n D) (hb : w'.heap[b]? = w.heap[b]?) : w'.ownsMap Try.prog 3 (unitElem (H := Unit)) b n D := by
  obtain ⟨es, clock, hh, r⟩ := h
  exact ⟨es, clock, hb.trans hh, r⟩

def kinds (l : List Xt) : List Int := l.map (·.kind)
theorem kinds_snoc {l : List Xt} {k : Nat} {x : Xt} (h : l[k]? = some x) : kinds (l.take (k + 1)) = kinds (l.take k) ++ [x.kind] := by
  unfold kinds
  rw [List.take_add_one, h]
  simp
def twiceB (l : List Xt) : Bool := !decide (kinds l).Nodup
structure Seen (w : World) (b k : Nat) (D : DataW Unit) (l : List Xt) : Prop where
  own : w.ownsMap Try.prog 3 (unitElem (H := Unit)) b k D
  has : ∀ z : Int, Maps.has D (.int .i64 z) = decide (z ∈ kinds (l.take k))
  nodup : (kinds (l.take k)).Nodup

set_option maxRecDepth 100000 in
set_option maxHeartbeats 1000000 in
theorem twice_any (A : Option Addr) (n c : Nat) (l : List Xt) (w : World) (hn : l.length = n) (hm : n ≤ 140737488351232) (hs : SrcX w A l) :
    Calls Try.prog 39 #[.slice A n c] w fun e w' => e = .returned (.bool (twiceB l)) ∧ Below w.heap.size w w' := by
  have hmm := @run_makeMap Try.prog
  have HS := Lib.hid hs
  have HN := Lib.hid hn
  clear hs hn
  go_enter Try.func39, Try.ntmps39
  go_wp2
  go_loopw [11] (fun i wr => ∃ k D, k ≤ n ∧ i = .int .i64 (k : Int) ∧ Hid (Seen wr w.heap.size k D l) ∧ Hid (Below w.heap.size w wr)) (fun i _ => n - (intOf i).toNat)
  case atStart =>
    refine ⟨0, .map [], Nat.zero_le _, rfl, Lib.hid ⟨World.ownsMap_made _ _ _ _, fun z => ?_, ?_⟩, Lib.hid ((Below.refl _ _).alloc (Nat.le_refl _) _)⟩
    · simp [Maps.has, kinds]
    · simp [kinds]
  case round =>
    obtain ⟨k, D, hk, rfl, HM, HB⟩ := hrel
    by_cases hlt : k < n
    · have hki : (k : Int) < (n : Int) := by omega
      obtain ⟨x, hx⟩ : ∃ x, l[k]? = some x := ⟨_, List.getElem?_eq_getElem (by have := HN.out; omega)⟩
      obtain ⟨hok, g, o, rfl, hgw, h0, h1⟩ := HS.out k x hx
      have hk1 := hok.k1
      have hc0 := (HB.out.cell (p := ⟨g, _, none⟩) hgw).trans h0
      have hc1 := (HB.out.cell (p := ⟨g, _, none⟩) hgw).trans h1
      clear h0 h1
      have hkey := Lib.hid (key_int x.kind hk1)
      have hsz := HB.out.size
      go_upto_region 5 with fail
      have hb := Blk.new wr 42 #[Value.int .i64 x.kind, .slice x.A x.n x.c]
      have HB1 := Lib.hid (HB.out.alloc (by omega) (.cells #[Value.int .i64 x.kind, .slice x.A x.n x.c] 42))
      have HO1 := Lib.hid (owns_on (HM.out.own) (Below.heap_alloc wr (.cells #[Value.int .i64 x.kind, .slice x.A x.n x.c] 42) w.heap.size HM.out.own.lt))
      have hlt1 := hb.lt
      have hlt2 := HM.out.own.lt
      have hne : w.heap.size ≠ wr.heap.size := by omega
      generalize hW1 : wr.alloc (.cells #[Value.int .i64 x.kind, .slice x.A x.n x.c] 42) = w1 at *
      have hs1 : w1.heap.size = wr.heap.size + 1 := by rw [← hW1]; exact alloc_size _ _
      clear hW1 hc0 hc1
      generalize hr : wr.heap.size = r at *
      have hc0 : w1.cell? ⟨r, 0, none⟩ = some (.int .i64 x.kind) := by rw [hb.cell]; rfl
      have HBk := Lib.hid hb
      clear hb
      by_cases hmem : x.kind ∈ kinds (l.take k)
      · have hh := Lib.hid ((HM.out.has x.kind).trans (decide_eq_true hmem))
        have HT : Hid (twiceB l = true) := by
          unfold twiceB
          rw [decide_eq_false]
          · rfl
          intro hnd
          have h1 : kinds (l.take (k + 1)) = kinds (l.take k) ++ [x.kind] := kinds_snoc hx
          have h2 : (kinds (l.take (k + 1))).Nodup := by
            unfold kinds at *
            exact (hnd.sublist ((List.take_sublist _ _).map _))
          rw [h1, List.nodup_append] at h2
          exact absurd rfl (h2.2.2 _ hmem _ (by simp))
        clear hmem
        go_wp2_with (at_lookup; refine wpList_lookup_own_unit _ rfl _ _ 78 rfl 3 79 keyed undM (zeroU _) w.heap.size k D rfl (by exact HO1.out) _ _ rfl hkey.out ?_; rw [hh.out])
        go_ret
        rw [HT.out]
        exact ⟨rfl, HB1.out.alloc (by omega) _⟩
      · have hh := Lib.hid ((HM.out.has x.kind).trans (decide_eq_false hmem))
        have HNM := Lib.hid hmem
        clear hmem
        go_upto_region 8 with (at_lookup; refine wpList_lookup_own_unit _ rfl _ _ 78 rfl 3 79 keyed undM (zeroU _) w.heap.size k D rfl (by exact HO1.out) _ _ rfl hkey.out ?_; rw [hh.out])
        have hne1 : w.heap.size ≠ w1.heap.size := by omega
        have HO2 := Lib.hid (owns_on HO1.out (Below.heap_alloc w1 (.cells #[] 79) w.heap.size (by omega)))
        have HB2 := Lib.hid (HB1.out.alloc (by omega) (.cells #[] 79))
        have hs2 : (w1.alloc (.cells #[] 79)).heap.size = w1.heap.size + 1 := alloc_size _ _
        go_wp2_with (at_mapUpdate; refine wpList_mapUpdate_own _ rfl _ _ _ 78 rfl 3 79 keyed undM (unitElem (H := Unit)) w.heap.size k D rfl (by exact HO2.out) (by unfold maxLen; omega) _ _ _ rfl rfl hkey.out _ [] unitElem_mk ?_; intro w3 hown3 hgrow3)
        have HO3 := Lib.hid hown3
        have HB3 := Lib.hid (HB2.out.grown hgrow3 (by omega) (fun j hj => by cases hj; exact Nat.le_refl _))
        clear hown3 hgrow3
        go_roundw
        case rel =>
          have hks := kinds_snoc hx
          refine ⟨k + 1, _, by omega, by go_num, Lib.hid ⟨HO3.out, fun z => ?_, ?_⟩, HB3⟩
          · rw [hks]
            by_cases hz : z = x.kind
            · subst hz
              rw [Maps.has_put_same HO2.out.isMap (keyed.key hkey.out)]
              simp
            · rw [Maps.has_put_other (fun e => hz (by injection e)), HM.out.has]
              simp [hz]
          · rw [hks, List.nodup_append]
            exact ⟨HM.out.nodup, by simp, fun a ha b hb' e => HNM.out (by simp at hb'; subst hb' e; exact ha)⟩
        case measure => simp [intOf]; omega
    · obtain rfl : k = n := by omega
      have HT : Hid (twiceB l = false) := by
        unfold twiceB
        have := HM.out.nodup
        rw [List.take_of_length_le (by have := HN.out; omega)] at this
        rw [decide_eq_true this]
        rfl
      go_wp2
      go_ret
      rw [HT.out]
      exact ⟨rfl, HB.out⟩

theorem wS5 {h : Hel} (h3 : ¬ h.ver.tdiv 256 = 3) : wrongS h = 5 := by unfold wrongS; rw [if_pos h3]
theorem wS6 {h : Hel} (h3 : h.ver.tdiv 256 = 3) (hs : 32 < h.ses.length) : wrongS h = 6 := by unfold wrongS; rw [if_neg (by simpa using h3), if_pos hs]
theorem wS8 {h : Hel} (h3 : h.ver.tdiv 256 = 3) (hs : ¬ 32 < h.ses.length) (hm : (0 : UInt8) ∉ h.met) : wrongS h = 8 := by unfold wrongS; rw [if_neg (by simpa using h3), if_neg hs, if_pos hm]
theorem wS7 {h : Hel} (h3 : h.ver.tdiv 256 = 3) (hs : ¬ 32 < h.ses.length) (hm : (0 : UInt8) ∈ h.met) (ht : ¬ (h.exts.map (·.1)).Nodup) : wrongS h = 7 := by
  unfold wrongS; rw [if_neg (by simpa using h3), if_neg hs, if_neg (by simpa using hm), if_pos ht]
theorem wS0 {h : Hel} (h3 : h.ver.tdiv 256 = 3) (hs : ¬ 32 < h.ses.length) (hm : (0 : UInt8) ∈ h.met) (ht : (h.exts.map (·.1)).Nodup) : wrongS h = 0 := by
  unfold wrongS; rw [if_neg (by simpa using h3), if_neg hs, if_neg (by simpa using hm), if_neg (by simpa using ht)]
theorem twice_hel {l : List Xt} : twiceB l = !decide ((l.map ext).map (·.1)).Nodup := by
  unfold twiceB kinds
  rw [List.map_map]
  rfl

set_option maxRecDepth 100000 in
set_option maxHeartbeats 1000000 in
theorem wrong_any (H : Hv) (w : World) (hH : H.Ok w) :
    Calls Try.prog 19 #[.agg H.C] w fun e w' => e = .returned (.int .i64 (wrongS H.hel)) ∧ Below w.heap.size w w' := by
  have HE : Hid (∀ i : Int, wrongS H.hel = i → Ending.returned (.int .i64 i) = .returned (.int .i64 (wrongS H.hel))) := fun i h => by rw [h]
  have hr := hH.rnd
  go_enter Try.func19, Try.ntmps19
  go_upto_region 1 with fail
  have hb := Blk.new w 28 H.C
  have HB1 := Lib.hid ((Below.refl w.heap.size w).alloc (Nat.le_refl _) (.cells H.C 28))
  have hlt := hb.lt
  have hok := hH.below HB1.out
  generalize w.alloc (.cells H.C 28) = w1 at *
  have HK := Lib.hid hok
  have hv := hok.ver
  have hs1 := hok.s1
  have hm1 := hok.m1
  have hx1 := hok.x1
  have c0 := cell_ver hb
  have c2 := cell_ses hb hr
  have c4 := cell_met hb hr
  have c6 := cell_xs hb hr
  have HBk := Lib.hid hb
  clear hb hok hH
  have hz : H.xs.length ≤ 140737488351232 := hx1.2
  by_cases h3 : H.ver.tdiv 256 = 3
  · have hv3 := ver_in h3
    by_cases hs : 32 < H.ses.length
    · have HW := Lib.hid (wS6 (h := H.hel) h3 hs)
      go_wp2_with fail
      go_ret
      exact ⟨HE.out _ HW.out, HB1.out⟩
    · have hs' : ¬ (32 : Int) < (H.ses.length : Int) := by omega
      have HN : Hid ((Lib.indexByte H.met (0 : Int).toNat.toUInt8 < 0) ↔ (0 : UInt8) ∉ H.met) := index_neg H.met 0
      by_cases hmem : (0 : UInt8) ∈ H.met
      · have hge := Lib.hid (show ¬ (Lib.indexByte H.met (0 : Int).toNat.toUInt8 < 0) from fun h => (HN.out.1 h) hmem)
        by_cases ht : (H.hel.exts.map (·.1)).Nodup
        · have HW := Lib.hid (wS0 (h := H.hel) h3 hs hmem ht)
          have HT : Hid (twiceB H.xs = false) := by rw [twice_hel]; show (!decide (H.hel.exts.map (·.1)).Nodup) = false; rw [decide_eq_true ht]; rfl
          clear ht hmem h3
          go_wp2_with fail
          refine (index_any _ _ _ H.met _ _ HK.out.met).mono ?_
          rintro e w2 ⟨rfl, rfl⟩
          have hx2 := hge.out
          generalize Lib.indexByte H.met (0 : Int).toNat.toUInt8 = I at *
          go_wp2_with fail
          refine (twice_any _ _ _ H.xs _ rfl hz HK.out.xs).mono ?_
          rintro e w2 ⟨rfl, hb2⟩
          have HB2 := Lib.hid (HB1.out.trans (hb2.mono HB1.out.size))
          rw [HT.out]
          clear hb2
          go_wp2_with fail
          go_ret
          exact ⟨HE.out _ HW.out, HB2.out⟩
        · have HW := Lib.hid (wS7 (h := H.hel) h3 hs hmem ht)
          have HT : Hid (twiceB H.xs = true) := by rw [twice_hel]; show (!decide (H.hel.exts.map (·.1)).Nodup) = true; rw [decide_eq_false ht]; rfl
          clear ht hmem h3
          go_wp2_with fail
          refine (index_any _ _ _ H.met _ _ HK.out.met).mono ?_
          rintro e w2 ⟨rfl, rfl⟩
          have hx2 := hge.out
          generalize Lib.indexByte H.met (0 : Int).toNat.toUInt8 = I at *
          go_wp2_with fail
          refine (twice_any _ _ _ H.xs _ rfl hz HK.out.xs).mono ?_
          rintro e w2 ⟨rfl, hb2⟩
          have HB2 := Lib.hid (HB1.out.trans (hb2.mono HB1.out.size))
          rw [HT.out]
          clear hb2
          go_wp2_with fail
          go_ret
          exact ⟨HE.out _ HW.out, HB2.out⟩
      · have HW := Lib.hid (wS8 (h := H.hel) h3 hs hmem)
        have hge := Lib.hid (HN.out.2 hmem)
        clear hmem h3
        go_wp2_with fail
        refine (index_any _ _ _ H.met _ _ HK.out.met).mono ?_
        rintro e w2 ⟨rfl, rfl⟩
        have hx2 := hge.out
        generalize Lib.indexByte H.met (0 : Int).toNat.toUInt8 = I at *
        go_wp2_with fail
        go_ret
        exact ⟨HE.out _ HW.out, HB1.out⟩
  · have HW := Lib.hid (wS5 (h := H.hel) h3)
    go_wp2_with fail
    go_ret
    exact ⟨HE.out _ HW.out, HB1.out⟩
end Go.Proofs.Ytpnidmegeimboaa.He
