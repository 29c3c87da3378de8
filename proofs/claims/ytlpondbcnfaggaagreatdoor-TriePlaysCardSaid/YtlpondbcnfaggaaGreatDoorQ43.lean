/-
  The walk of TriePlays over this seat's translation, over the contracts of package trie. No condition.
-/
import Derived.Test.YtlpondbcnfaggaaGreatDoorQ40
import Derived.Test.YtlpondbcnfaggaaGreatDoorQ42
import Derived.Deep.QuietTactic
namespace Go.Proofs.YtlpondbcnfaggaaGreatDoor.Tr
open Go.RowKit Go.Proofs.YtlpondbcnfaggaaGreatDoor.Wd Go.Proofs.YtlpondbcnfaggaaGreatDoor.Asc Go.Proofs.YtlpondbcnfaggaaGreatDoor.Tx Go.Proofs.YtlpondbcnfaggaaGreatDoor.St

/-- both tries: the program's, and the document's -/
structure PlIn (Tri : World → Nat → List Nat → List Ru → Prop) (W : World) (g : Nat) (S : List Nat) (L1 : List Ru) (y : Nat) (v : Value) (L2 : List Ru) (w : World) : Prop where
  t : Tri w g S L1
  far : ∀ i ∈ g :: S, W.heap.size ≤ i
  tr : RTv w W.heap.size y v L2
  yk : W.heap.size ≤ y
  yo : y ∉ g :: S
  vo : ∀ b, v.ownBlock = some b → b ∉ g :: S
  bel : Below W.heap.size W w
section
variable {Tri : World → Nat → List Nat → List Ru → Prop} {W w w' : World} {g y : Nat} {v v' : Value} {S S' : List Nat} {L1 L2 L : List Ru}
theorem PlIn.on (C : TrC Tri) (h : PlIn Tri W g S L1 y v L2 w) (hb : Below w.heap.size w w') : PlIn Tri W g S L1 y v L2 w' :=
  ⟨C.below h.t hb, h.far, h.tr.below hb, h.yk, h.yo, h.vo, h.bel.trans (hb.mono h.bel.size)⟩
theorem PlIn.addx (h : PlIn Tri W g S L1 y v L2 w) (ht : Tri w' g S' L) (hS : ∀ i ∈ S', i ∈ S ∨ w.heap.size ≤ i) (hb : But (g :: S) w w') : PlIn Tri W g S' L y v L2 w' := by
  have key : ∀ b, b ∉ g :: S → b < w.heap.size → b ∉ g :: S' := fun b h1 h2 hm => by
    rcases List.mem_cons.1 hm with hm | hm
    · exact h1 (by rw [hm]; simp)
    · rcases hS b hm with hm | hm
      · exact h1 (List.mem_cons_of_mem _ hm)
      · omega
  refine ⟨ht, fun i hi => ?_, ⟨h.tr.1.but hb h.yo, h.tr.2.but hb h.vo⟩, h.yk, key y h.yo h.tr.lt, fun b hv => key b (h.vo b hv) (h.tr.2.ge b hv).2, h.bel.trans (hb.below h.far h.bel.size)⟩
  rcases List.mem_cons.1 hi with hi | hi
  · rw [hi]; exact h.far g (by simp)
  · rcases hS i hi with hi | hi
    · exact h.far i (List.mem_cons_of_mem _ hi)
    · exact Nat.le_trans h.bel.size hi
theorem PlIn.addy (C : TrC Tri) (h : PlIn Tri W g S L1 y v L2 w) (ht : RTv w' W.heap.size y v' L) (hv : ∀ b, v'.ownBlock = some b → v.ownBlock = some b ∨ w.heap.size ≤ b) (hb : But [y] w w') : PlIn Tri W g S L1 y v' L w' :=
  ⟨C.but h.t hb (fun i hi hm => by rw [List.mem_singleton.1 hm] at hi; exact h.yo hi), h.far, ht, h.yk, h.yo, fun b hb hm => by
    rcases hv b hb with hb | hb
    · exact h.vo b hb hm
    · have := C.lts h.t b hm
      omega, h.bel.trans (hb.below (fun i hi => by rw [List.mem_singleton.1 hi]; exact h.yk) h.bel.size)⟩
end
/-- behind the finds: the rule that was found, twice -/
structure EnIn (Tri : World → Nat → List Nat → List Ru → Prop) (W : World) (g : Nat) (S : List Nat) (y : Nat) (v : Value) (L : List Ru) (X Y : Nat) (a : Ru) (w : World) : Prop where
  pl : PlIn Tri W g S L y v L w
  bx : Blk w X 23 (ruC a)
  by_ : Blk w Y 23 (ruC a)
theorem EnIn.on {Tri : World → Nat → List Nat → List Ru → Prop} (C : TrC Tri) {W w w' : World} {g y X Y : Nat} {S : List Nat} {v : Value} {L : List Ru} {a : Ru} (h : EnIn Tri W g S y v L X Y a w) (hb : Below w.heap.size w w') : EnIn Tri W g S y v L X Y a w' := ⟨h.pl.on C hb, h.bx.below hb h.bx.lt, h.by_.below hb h.by_.lt⟩
theorem put_nextP {L l : List Ru} {k : Nat} {x : Ru} (h : l[k]? = some x) : putS L (l.take (k + 1)) = addS (putS L (l.take k)) x := by
  rw [List.take_add_one, h]
  exact put_snoc _ _ _
/-- a row that may be written over, from block K on -/
def ThU (w : World) (K : Nat) (A : Option Addr) (N : Nat) : Prop := N = 0 ∨ ∃ b, A = some ⟨b, 0, none⟩ ∧ K ≤ b ∧ w.there b 0 (N * 5)
theorem OwnU.thu {w : World} {K : Nat} {A : Option Addr} {c : Nat} {l : List Ru} (h : OwnU w K (.slice A l.length c) l) : ThU w K A l.length := by
  obtain ⟨hl, ⟨e, h0⟩ | ⟨g, cap, cur, e, hg, hh, hc, hm, hz, ht⟩⟩ := h
  · exact .inl h0
  · injection e with e1 e2 e3
    have hb : Blk w g 23 cur := hh
    refine .inr ⟨g, e1, hg, fun j hj => ⟨?_, hb.frozen _⟩⟩
    rw [hb.cell, Nat.zero_add, Array.getElem?_eq_getElem (by omega)]
    rfl
theorem below_setCells {K b : Nat} (hK : K ≤ b) : ∀ (vs : List Value) (o : Nat) (a w : World), Below K a w → Below K a (w.setCells b o vs)
  | [], _, _, _, h => h
  | v :: r, o, a, w, h => by
    rw [World.setCells]
    exact below_setCells hK r (o + 1) a _ (h.setCell (p := ⟨b, o, none⟩) hK v)
set_option linter.unusedSimpArgs false in
set_option maxRecDepth 100000 in
set_option maxHeartbeats 64000000 in
theorem plays_walk {Tri : World → Nat → List Nat → List Ru → Prop} (C : TrC Tri) (hSm : SmallP) (W : World) (A : Option Addr) (n cap : Nat) (l : List Ru) (s : ByteArray) (port : Int) (A1 : Option Addr) (n1 cap1 : Nat) (ss : List ByteArray) (hE : Ad.Env W.heap.size W) (h9 : n ≤ 9223372036854775807) (hn : l.length = n) (hz : ∀ x ∈ l, x.pa.length ≤ 9223372036854775807 ∧ x.ap.length ≤ 9223372036854775807) (hl : SrcU W A l)
    (hs : s.size ≤ 9223372036854775807) (hp : -9223372036854775808 ≤ port ∧ port ≤ 9223372036854775807) (le1 : n1 ≤ cap1) (h91 : n1 ≤ 9223372036854775807) (hn1 : ss.length = n1) (hss : SrcS W A1 ss) :
    Calls Tryz.prog 4 #[.slice A n cap, .string s, .int .i64 port, .slice A1 n1 cap1] W fun e w' => e = .returned (.bool true) ∧ Below W.heap.size W w' := by
  have HE := Lib.hid hE
  have HSm : Hid SmallP := hSm
  have HC := Lib.hid C
  have HL := Lib.hid hl
  have HN := Lib.hid hn
  have HZ := Lib.hid hz
  have HP := Lib.hid hp
  have HL1 := Lib.hid le1
  have HN1 := Lib.hid hn1
  have HSS := Lib.hid hss
  clear hE hSm C hl hn hz hp le1 hn1 hss
  go_enter Tryz.func4, Tryz.ntmps4
  go_wp2_with fail
  refine (HSm.out W HE.out).mono ?_
  rintro e w2 ⟨rfl, hb⟩
  have HB2 := Lib.hid hb
  clear hb HSm
  obtain ⟨b, hb⟩ : ∃ b, fewU l = b := ⟨_, rfl⟩
  have HFw := Lib.hid hb
  have HF := Lib.hid (few_any l A n cap w2 (HL.out.below HB2.out) HN.out h9 HZ.out)
  rw [hb] at HF
  clear hb
  go_wp2_with fail
  refine HF.out.mono ?_
  rintro e w3 ⟨rfl, rfl⟩
  clear HF
  obtain ⟨b1, hb1⟩ : ∃ b, decide (n1 ≤ 20) = b := ⟨_, rfl⟩
  have HAl := Lib.hid (fun w => alpns_any A1 n1 cap1 w b1 hb1 h91)
  have HB1 := Lib.hid hb1
  clear hb1
  go_wp2_with fail
  refine (HAl.out _).mono ?_
  rintro e w3 ⟨rfl, rfl⟩
  clear HAl
  go_wp2_with fail
  refine (HC.out.new_ w2).mono ?_
  rintro e w4 ⟨g, S, rfl, ht1, hf1, hb⟩
  go_upto_region 6 with fail
  have hby := Blk.new w4 37 #[.slice none 0 0]
  have hly : Below w4.heap.size w4 (w4.alloc (.cells #[.slice none 0 0] 37)) := (Below.refl _ _).alloc (Nat.le_refl _) _
  have HI4 : Hid (PlIn Tri W g S [] w4.heap.size (.slice none 0 0) [] (w4.alloc (.cells #[.slice none 0 0] 37))) := Lib.hid (by
    have hB4 : Below W.heap.size W w4 := HB2.out.trans (hb.mono HB2.out.size)
    exact ⟨HC.out.below ht1 hly, fun i hi => Nat.le_trans HB2.out.size (hf1 i hi), ⟨hby, OwnU.nil_ _ _⟩, hB4.size, (fun hm => by have := HC.out.lts ht1 _ hm; omega), (fun b hb => by cases hb), hB4.trans (hly.mono hB4.size)⟩)
  clear ht1 hf1 hb HB2 hby hly
  obtain ⟨y, hy⟩ : ∃ y, w4.heap.size = y := ⟨_, rfl⟩
  rw [hy] at HI4 ⊢
  clear hy
  generalize w4.alloc (.cells #[.slice none 0 0] 37) = w5 at *
  cases b
  · go_wp2_with fail
    go_ret
    exact ⟨rfl, HI4.out.bel⟩
  obtain ⟨f1, f2⟩ := few_len HFw.out
  have HF2 := Lib.hid f2
  clear f2 HFw
  cases b1
  · go_wp2_with fail
    go_ret
    exact ⟨rfl, HI4.out.bel⟩
  have hn20 : n1 ≤ 20 := of_decide_eq_true HB1.out
  clear HB1
  by_cases p2 : 300 < s.size
  · have i2 : (300 : Int) < (s.size : Int) := by omega
    clear p2 f1
    go_wp2_with fail
    go_ret
    exact ⟨rfl, HI4.out.bel⟩
  have i2 : ¬ (300 : Int) < (s.size : Int) := by omega
  have HSs := Lib.hid (show s.size ≤ 1000000 by omega)
  have hn220 : n ≤ 220 := by rw [← HN.out]; exact f1
  clear p2 hs h9 h91 f1
  have HRA := Lib.hid (fun (k : Nat) (x : Ru) (hx : l[k]? = some x) (w' : World) (hb : Below W.heap.size W w') => show ∃ g o, A = some ⟨g, o, none⟩ ∧ RuAt w' g (o + k * 5) x from by
    obtain ⟨r', g', p', hr', hA', hg', hra'⟩ := HL.out.get (wr := w') (k := k) (List.getElem?_eq_some_iff.1 hx).1 hb
    rw [hx] at hr'
    injection hr' with hr'
    subst hr'
    exact ⟨g', p', hA', hra'⟩)
  go_wp2_with fail
  clear i2
  go_loopw [14] (fun x14 wr => ∃ (k : Nat) (ww : World) (S : List Nat) (v : Value), ww = wr ∧ k ≤ n ∧ x14 = .int .i64 (k : Nat) ∧ Hid (PlIn Tri W g S (putS [] (l.take k)) y v (putS [] (l.take k)) ww)) (fun x14 _ => n - (intOf x14).toNat)
  case atStart => exact ⟨0, w5, S, _, rfl, Nat.zero_le _, rfl, HI4⟩
  case round =>
    clear HI4
    obtain ⟨k, ww, S, v, rfl, hk, rfl, HI⟩ := hrel
    by_cases hlt : k < n
    · have hki : (k : Int) < (n : Int) := by omega
      obtain ⟨x, hx⟩ : ∃ x, l[k]? = some x := ⟨_, List.getElem?_eq_getElem (by rw [HN.out]; exact hlt)⟩
      have HX := Lib.hid hx
      obtain ⟨x1, x2⟩ := HF2.out x (List.mem_of_getElem? hx)
      have HX1 := Lib.hid x1
      have HX2 := Lib.hid x2
      obtain ⟨g0, o0, hA0, _⟩ := HRA.out k x hx ww HI.out.bel
      subst hA0
      have HRX := Lib.hid (fun (w' : World) (hb : Below W.heap.size W w') => show w'.rangeAt g0 (o0 + k * 5) (ruC x).toList by
        obtain ⟨g1, o1, hA1, h⟩ := HRA.out k x hx w' hb
        injection hA1 with hA1
        injection hA1 with e1 e2
        subst e1 e2
        exact h.range)
      have hLk : (putS [] (l.take k)).length ≤ 90000 := by
        have := (put_len (l.take k) []).1
        rw [List.length_take] at this
        simp only [List.length_nil] at this
        omega
      obtain ⟨e0, he0⟩ : ∃ e, addE (putS [] (l.take k)) x = e := ⟨_, rfl⟩
      have HId : Hid (PlIn Tri W g S (putS [] (l.take k)) y v (putS [] (l.take k)) ww.drew) := Lib.hid (HI.out.on HC.out (show Below ww.heap.size ww ww.drew from (Below.refl _ _).drew))
      have FX := Lib.hid (HC.out.add_ (HE.out.below HId.out.bel) HId.out.far HId.out.t x (Nat.le_trans HX1.out (by decide)) (Nat.le_trans HX2.out (by decide)))
      have FY := Lib.hid (fun (w' : World) (v : Value) (S : List Nat) (L1 : List Ru) (h : PlIn Tri W g S L1 y v (putS [] (l.take k)) w') => radd_any w' h.tr h.bel.size hLk x (Nat.le_trans HX1.out (by decide)) (Nat.le_trans HX2.out (by decide)))
      rw [he0] at FX FY
      clear hx x1 x2 hLk he0 HI
      go_upto_region 11 with fail
      refine wp_region_held_drew (S := fun w' => w'.rangeAt g0 (o0 + k * 5) (ruC x).toList) (by kernel_rfl) (HRX.out _ HId.out.bel) (fun h0 => ?_)
      refine hd_take 0 (some 58) (.pointer (some ⟨g, 0, none⟩)) rfl rfl (by kernel_rfl) (by kernel_rfl) (by kernel_rfl) (fun _ _ _ h => h) (Or.inl ⟨by rfl, fun w hw => by go_simp⟩) h0 ?_
      simp only [Act.put, List.setIfInBounds_toArray, List.set_cons_zero, List.set_cons_succ]
      refine hd_take 1 (some 59) (.slice (some ⟨g0, o0, none⟩) n cap) rfl rfl (by kernel_rfl) (by kernel_rfl) (by kernel_rfl) (fun _ _ _ h => h) (Or.inl ⟨by rfl, fun w hw => by go_simp⟩) h0 ?_
      simp only [Act.put, List.setIfInBounds_toArray, List.set_cons_zero, List.set_cons_succ]
      refine hd_take 2 (some 60) (.int .i64 (k : Int)) rfl rfl (by kernel_rfl) (by kernel_rfl) (by kernel_rfl) (fun _ _ _ h => h) (Or.inl ⟨by rfl, fun w hw => by go_simp⟩) h0 ?_
      simp only [Act.put, List.setIfInBounds_toArray, List.set_cons_zero, List.set_cons_succ]
      refine hd_take 3 (some 61) (.pointer (some ⟨g0, o0 + k * 5, none⟩)) rfl rfl (by kernel_rfl) (by kernel_rfl) (by kernel_rfl) (fun _ _ _ h => h) (Or.inl ⟨by rfl, fun w hw => by go_simp <;> omega⟩) h0 ?_
      simp only [Act.put, List.setIfInBounds_toArray, List.set_cons_zero, List.set_cons_succ]
      refine hd_take 4 (some 62) (.agg (ruC x)) rfl rfl (by kernel_rfl) (by kernel_rfl) (by kernel_rfl) (fun _ _ _ h => h) (yieldsIf_load_mid (by rfl) _ _ rfl g0 (o0 + k * 5) rfl (ruC x).toList _ (fun _ h => h) undU rfl (ruU_len x)) h0 ?_
      simp only [Act.put, List.setIfInBounds_toArray, List.set_cons_zero, List.set_cons_succ]
      refine hd_take 6 (some 64) (.pointer (some ⟨y, 0, none⟩)) rfl rfl (by kernel_rfl) (by kernel_rfl) (by kernel_rfl) (fun _ _ _ h => h) (Or.inl ⟨by rfl, fun w hw => by go_simp⟩) h0 ?_
      simp only [Act.put, List.setIfInBounds_toArray, List.set_cons_zero, List.set_cons_succ]
      refine hd_take 7 (some 65) (.slice (some ⟨g0, o0, none⟩) n cap) rfl rfl (by kernel_rfl) (by kernel_rfl) (by kernel_rfl) (fun _ _ _ h => h) (Or.inl ⟨by rfl, fun w hw => by go_simp⟩) h0 ?_
      simp only [Act.put, List.setIfInBounds_toArray, List.set_cons_zero, List.set_cons_succ]
      refine hd_take 8 (some 66) (.int .i64 (k : Int)) rfl rfl (by kernel_rfl) (by kernel_rfl) (by kernel_rfl) (fun _ _ _ h => h) (Or.inl ⟨by rfl, fun w hw => by go_simp⟩) h0 ?_
      simp only [Act.put, List.setIfInBounds_toArray, List.set_cons_zero, List.set_cons_succ]
      refine hd_take 9 (some 67) (.pointer (some ⟨g0, o0 + k * 5, none⟩)) rfl rfl (by kernel_rfl) (by kernel_rfl) (by kernel_rfl) (fun _ _ _ h => h) (Or.inl ⟨by rfl, fun w hw => by go_simp <;> omega⟩) h0 ?_
      simp only [Act.put, List.setIfInBounds_toArray, List.set_cons_zero, List.set_cons_succ]
      refine hd_take 10 (some 68) (.agg (ruC x)) rfl rfl (by kernel_rfl) (by kernel_rfl) (by kernel_rfl) (fun _ _ _ h => h) (yieldsIf_load_mid (by rfl) _ _ rfl g0 (o0 + k * 5) rfl (ruC x).toList _ (fun _ h => h) undU rfl (ruU_len x)) h0 ?_
      simp only [Act.put, List.setIfInBounds_toArray, List.set_cons_zero, List.set_cons_succ]
      refine wpAnyH_ready (rs := [5]) (by kernel_rfl) (by simp) (AllReadyH.cons rfl (fun K hK => ?_) AllReadyH.nil)
      go_simp
      go_wp2_with (go_at_call 21; refine FX.out.mono ?_; rintro e w8 ⟨S4, rfl, ht, hS, hb⟩; have HI8 := Lib.hid (HId.out.addx ht hS hb); clear ht hS hb)
      refine hK.out _ _ (HRX.out _ HI8.out.bel) (fun h8 => ?_)
      clear hK K h0 HId FX
      refine wpAnyH_ready (rs := [11]) (by kernel_rfl) (by simp) (AllReadyH.cons rfl (fun K hK => ?_) AllReadyH.nil)
      go_simp
      go_wp2_with (go_at_call 22; refine (FY.out _ _ _ _ HI8.out).mono ?_; rintro e w9 ⟨v9, rfl, ht, hv, hb⟩; have HI9 := Lib.hid (HI8.out.addy HC.out ht hv hb); clear ht hv hb)
      refine hK.out _ _ (HRX.out _ HI9.out.bel) (fun h9 => ?_)
      clear hK K h8 HI8 FY
      rw [← put_nextP HX.out] at HI9
      refine hd_take 12 (some 70) (.bool false) rfl rfl (by kernel_rfl) (by kernel_rfl) (by kernel_rfl) (fun _ _ _ h => h) (Or.inl ⟨by rfl, fun w hw => by go_simp⟩) h9 ?_
      simp only [Act.put, List.setIfInBounds_toArray, List.set_cons_zero, List.set_cons_succ]
      refine wpAnyH_done (by kernel_rfl) ?_ _
      clear h9
      go_wp2_with fail
      go_roundw
      case rel => exact ⟨k + 1, _, S4, v9, rfl, by omega, by go_num, HI9⟩
      case measure => simp [intOf]; omega
    · have hki : ¬ (k : Int) < (n : Int) := by omega
      have hkl : l.take k = l := List.take_of_length_le (by rw [HN.out]; omega)
      rw [hkl] at HI
      clear hkl
      obtain ⟨L, hL⟩ : ∃ L, putS [] l = L := ⟨_, rfl⟩
      have hLl : L.length ≤ 220 := by have := (put_len l []).1; rw [hL, HN.out] at this; simp only [List.length_nil] at this; omega
      have HLp := Lib.hid (show ∀ x ∈ L, x.pa.length ≤ 1000000 from fun x hx => by
        rcases (put_right l [] (fun _ h => by cases h) x (by rw [hL]; exact hx)).2 with h | h
        · cases h
        · exact Nat.le_trans (HF2.out x h).1 (by decide))
      rw [hL] at HI
      clear hL
      obtain ⟨N, hN⟩ : ∃ N, L.length = N := ⟨_, rfl⟩
      have HLN := Lib.hid hN
      rw [hN] at hLl
      clear hN
      obtain ⟨o, ho⟩ : ∃ o, findS L (bs s) port (ss.map bs) = o := ⟨_, rfl⟩
      have F1 := Lib.hid (HC.out.find_at (HE.out.below HI.out.bel) HI.out.t s port A1 n1 cap1 ss HSs.out HP.out HN1.out HL1.out (by omega) (HSS.out.below HI.out.bel) o ho)
      have F2 := Lib.hid (fun (w' : World) (h : PlIn Tri W g S L y v L w') => rfind_any w' h.tr (by rw [HLN.out]; omega) HLp.out s port A1 n1 cap1 ss HSs.out HN1.out (by omega) (HSS.out.below h.bel))
      rw [ho, resF_is] at F2
      clear ho
      obtain ⟨e, he⟩ : ∃ e, o.isSome = e := ⟨_, rfl⟩
      obtain ⟨a, ha⟩ : ∃ a, bestR o = a := ⟨_, rfl⟩
      obtain ⟨at_, hat⟩ : ∃ i, bestI o = i := ⟨_, rfl⟩
      rw [he, ha, hat] at F1 F2
      clear he ha hat
      go_wp2_with fail
      refine F1.out.mono ?_
      rintro e' w8 ⟨rfl, hb⟩
      have HI8 := Lib.hid (HI.out.on HC.out hb)
      clear hb HI F1
      go_upto_region 14 with (refine go_st 23 (Blk.new _ _ _) infU rfl (ruC_size _) (ruC_one _) rfl rfl rfl rfl ?_)
      obtain ⟨hbA, hlA⟩ := ru_new w8 a
      have HI9 := Lib.hid (HI8.out.on HC.out hlA)
      have HbA := Lib.hid hbA
      clear hbA hlA HI8
      obtain ⟨X, hX⟩ : ∃ X, w8.heap.size = X := ⟨_, rfl⟩
      rw [hX] at HbA HI9 ⊢
      clear hX
      generalize (w8.alloc (.cells zU 23)).setRow X (ruC a) = w9 at *
      go_wp2_with fail
      refine (F2.out _ HI9.out).mono ?_
      rintro e' w10 ⟨rfl, hb⟩
      have HI10 := Lib.hid (HI9.out.on HC.out hb)
      have HbA10 := Lib.hid (HbA.out.below hb HbA.out.lt)
      clear hb HI9 HbA F2
      go_upto_region 15 with (refine go_st 23 (Blk.new _ _ _) infU rfl (ruC_size _) (ruC_one _) rfl rfl rfl rfl ?_)
      obtain ⟨hbB, hlB⟩ := ru_new w10 a
      obtain ⟨Y, hY⟩ : ∃ Y, w10.heap.size = Y := ⟨_, rfl⟩
      have HI : Hid (EnIn Tri W g S y v L X w10.heap.size a ((w10.alloc (.cells zU 23)).setRow w10.heap.size (ruC a))) := Lib.hid ⟨HI10.out.on HC.out hlB, HbA10.out.below hlB HbA10.out.lt, hbB⟩
      clear hbB hlB HI10 HbA10
      rw [hY] at HI ⊢
      clear hY
      generalize (w10.alloc (.cells zU 23)).setRow Y (ruC a) = w11 at *
      go_wp2_with fail
      refine (HC.out.rules_ HI.out.pl.t).mono ?_
      rintro e' w12 ⟨v2, rfl, hv, hb⟩
      obtain ⟨A2, c2, rfl, _, hsrc⟩ := hv.src
      have HTh := Lib.hid hv.thu
      rw [HLN.out] at HTh ⊢
      have HSr := Lib.hid hsrc
      have HB12 := Lib.hid hb
      clear hv hsrc hb
      have HI12 := Lib.hid (HI.out.on HC.out HB12.out)
      obtain ⟨A3, c3, hy3, hsrc3⟩ := HI12.out.pl.tr.form
      rw [HLN.out] at hy3
      have HSm2 := Lib.hid (rsame_any L L A2 A3 N N c2 c3 w12 HSr.out HLN.out hsrc3 HLN.out (by omega))
      rw [decide_eq_true (show L = L from rfl)] at HSm2
      clear hsrc3
      go_wp2_with fail
      refine HSm2.out.mono ?_
      rintro e' w13 ⟨rfl, hb⟩
      have HB13 := Lib.hid (HB12.out.trans (hb.mono HB12.out.size))
      have HTh13 : Hid (ThU w13 w11.heap.size A2 N) := Lib.hid (by
        rcases HTh.out with h | ⟨bl, h1, h2, h3⟩
        · exact .inl h
        · refine .inr ⟨bl, h1, h2, fun j hj => ?_⟩
          obtain ⟨q1, q2⟩ := h3 j hj
          have hlt : bl < w12.heap.size := by
            obtain ⟨u, hu⟩ := Option.isSome_iff_exists.1 q1
            exact World.block_lt_of_cell? w12 _ hu
          exact ⟨by rw [hb.cell (p := ⟨bl, _, none⟩) hlt]; exact q1, by rw [hb.frozen (p := ⟨bl, _, none⟩) hlt]; exact q2⟩)
      clear hb hy3 HI12 HSm2 HTh HB12 HSr
      obtain ⟨Kb, hKb⟩ : ∃ K, w11.heap.size = K := ⟨_, rfl⟩
      have HK := Lib.hid hKb
      rw [hKb] at HTh13 HB13
      clear hKb
      go_wp2_with fail
      go_loopw [23] (fun x23 wr => ∃ (i : Nat) (ww : World), ww = wr ∧ i ≤ N ∧ x23 = .int .i64 (i : Nat) ∧ Hid (Below Kb w11 ww) ∧ Hid (ThU ww Kb A2 N)) (fun x23 _ => N - (intOf x23).toNat)
      case atStart => exact ⟨0, w13, rfl, Nat.zero_le _, rfl, HB13, HTh13⟩
      case round =>
        clear HB13 HTh13
        obtain ⟨i, ww, rfl, hi, rfl, HB, HTh⟩ := hrel
        by_cases hlt : i < N
        · have hii : (i : Int) < (N : Int) := by omega
          obtain ⟨bl, hA2, hbl, hth⟩ : ∃ bl, A2 = some ⟨bl, 0, none⟩ ∧ Kb ≤ bl ∧ ww.there bl 0 (N * 5) := by
            rcases HTh.out with h | h
            · omega
            · exact h
          subst hA2
          have ht5 : ∀ j, j < 5 → (∃ u, ww.cell? ⟨bl, i * 5 + j, none⟩ = some u) ∧ ww.frozen? ⟨bl, i * 5 + j, none⟩ = false := fun j hj => by
            have h := hth (i * 5 + j) (by omega)
            rw [Nat.zero_add] at h
            exact ⟨Option.isSome_iff_exists.1 h.1, h.2⟩
          obtain ⟨⟨u0, c0⟩, f0⟩ := ht5 0 (by decide)
          obtain ⟨⟨u1, c1⟩, f1⟩ := ht5 1 (by decide)
          obtain ⟨⟨u2, c2_⟩, f2⟩ := ht5 2 (by decide)
          obtain ⟨⟨u3, c3_⟩, f3⟩ := ht5 3 (by decide)
          obtain ⟨⟨u4, c4_⟩, f4⟩ := ht5 4 (by decide)
          rw [Nat.add_zero] at c0 f0
          have HB2 : Hid (Below Kb w11 (((((ww.setCell ⟨bl, i * 5, none⟩ (.bool false)).setCell ⟨bl, i * 5 + 1, none⟩ (.int .i64 0)).setCell ⟨bl, i * 5 + 2, none⟩ (.string ⟨#[]⟩)).setCell ⟨bl, i * 5 + 3, none⟩ (.int .i64 0)).setCell ⟨bl, i * 5 + 4, none⟩ (.string ⟨#[]⟩))) := Lib.hid (below_setCells hbl (ruC Ru.zero).toList (i * 5) _ _ HB.out)
          have HTh2 : Hid (ThU (((((ww.setCell ⟨bl, i * 5, none⟩ (.bool false)).setCell ⟨bl, i * 5 + 1, none⟩ (.int .i64 0)).setCell ⟨bl, i * 5 + 2, none⟩ (.string ⟨#[]⟩)).setCell ⟨bl, i * 5 + 3, none⟩ (.int .i64 0)).setCell ⟨bl, i * 5 + 4, none⟩ (.string ⟨#[]⟩)) Kb (some ⟨bl, 0, none⟩) N) := Lib.hid (.inr ⟨bl, rfl, hbl, World.there_setCells hth bl (i * 5) (ruC Ru.zero).toList⟩)
          clear hth hbl HB HTh ht5
          go_wp2_with fail
          clear c0 c1 c2_ c3_ c4_ f0 f1 f2 f3 f4
          go_roundw
          case rel => exact ⟨i + 1, _, rfl, by omega, by go_num, HB2, HTh2⟩
          case measure => simp [intOf]; omega
        · have hii : ¬ (i : Int) < (N : Int) := by omega
          obtain ⟨A3, c3, rfl, _, _⟩ := HI.out.pl.tr.2.src
          have HId : Hid (EnIn Tri W g S y (.slice A3 L.length c3) L X Y a ww.drew) := Lib.hid (HI.out.on HC.out (show Below w11.heap.size w11 ww.drew by rw [HK.out]; exact HB.out.drew))
          have HSt := Lib.hid (fun (w' : World) (h : EnIn Tri W g S y (.slice A3 L.length c3) L X Y a w') => show w'.rangeAt X 0 (ruC a).toList ∧ w'.rangeAt Y 0 (ruC a).toList ∧ w'.cell? ⟨y, 0, none⟩ = some (.slice A3 N c3) from ⟨range_b h.bx, range_b h.by_, by rw [← HLN.out]; exact h.pl.tr.1.cell 0⟩)
          have HSc := Lib.hid (fun (w' : World) (h : EnIn Tri W g S y (.slice A3 L.length c3) L X Y a w') => show SrcU w' A3 L by
            obtain ⟨A', c', e', _, hs'⟩ := h.pl.tr.2.src
            injection e' with e1 _ _
            rw [e1]
            exact hs')
          clear HI HB HTh
          go_upto_region 21 with fail
          refine wp_region_held_drew (S := fun w' => w'.rangeAt X 0 (ruC a).toList ∧ w'.rangeAt Y 0 (ruC a).toList ∧ w'.cell? ⟨y, 0, none⟩ = some (.slice A3 N c3)) (by kernel_rfl) (HSt.out _ HId.out) (fun h0 => ?_)
          refine hd_take 0 (some 107) (.bool true) rfl rfl (by kernel_rfl) (by kernel_rfl) (by kernel_rfl) (fun _ _ _ h => h) (Or.inl ⟨by rfl, fun w hw => by go_simp⟩) h0 ?_
          simp only [Act.put, List.setIfInBounds_toArray, List.set_cons_zero, List.set_cons_succ]
          refine hd_take 1 (some 108) (.bool true) rfl rfl (by kernel_rfl) (by kernel_rfl) (by kernel_rfl) (fun _ _ _ h => h) (Or.inl ⟨by rfl, fun w hw => by go_simp⟩) h0 ?_
          simp only [Act.put, List.setIfInBounds_toArray, List.set_cons_zero, List.set_cons_succ]
          refine hd_take 2 (some 109) (.agg (ruC a)) rfl rfl (by kernel_rfl) (by kernel_rfl) (by kernel_rfl) (fun _ _ _ h => h) (yieldsIf_load_mid (by rfl) _ _ rfl X 0 rfl (ruC a).toList _ (fun _ h => h.1) undU rfl (ruU_len a)) h0 ?_
          simp only [Act.put, List.setIfInBounds_toArray, List.set_cons_zero, List.set_cons_succ]
          refine hd_take 3 (some 110) (.agg (ruC a)) rfl rfl (by kernel_rfl) (by kernel_rfl) (by kernel_rfl) (fun _ _ _ h => h) (yieldsIf_load_mid (by rfl) _ _ rfl Y 0 rfl (ruC a).toList _ (fun _ h => h.2.1) undU rfl (ruU_len a)) h0 ?_
          simp only [Act.put, List.setIfInBounds_toArray, List.set_cons_zero, List.set_cons_succ]
          refine hd_take 4 (some 111) (.bool true) rfl rfl (by kernel_rfl) (by kernel_rfl) (by kernel_rfl) (fun _ _ _ h => h) (yields_eqlU a a true (decide_eq_true rfl) (by rfl) (by rfl) rfl rfl) h0 ?_
          simp only [Act.put, List.setIfInBounds_toArray, List.set_cons_zero, List.set_cons_succ]
          refine hd_take 5 (some 112) (.bool true) rfl rfl (by kernel_rfl) (by kernel_rfl) (by kernel_rfl) (fun _ _ _ h => h) (Or.inl ⟨by rfl, fun w hw => by go_simp⟩) h0 ?_
          simp only [Act.put, List.setIfInBounds_toArray, List.set_cons_zero, List.set_cons_succ]
          refine hd_take 6 (some 113) (.bool true) rfl rfl (by kernel_rfl) (by kernel_rfl) (by kernel_rfl) (fun _ _ _ h => h) (Or.inl ⟨by rfl, fun w hw => by go_simp⟩) h0 ?_
          simp only [Act.put, List.setIfInBounds_toArray, List.set_cons_zero, List.set_cons_succ]
          refine hd_take 7 (some 114) (.int .i64 (at_ : Int)) rfl rfl (by kernel_rfl) (by kernel_rfl) (by kernel_rfl) (fun _ _ _ h => h) (Or.inl ⟨by rfl, fun w hw => by go_simp⟩) h0 ?_
          simp only [Act.put, List.setIfInBounds_toArray, List.set_cons_zero, List.set_cons_succ]
          refine hd_take 8 (some 115) (.int .i64 (at_ : Int)) rfl rfl (by kernel_rfl) (by kernel_rfl) (by kernel_rfl) (fun _ _ _ h => h) (Or.inl ⟨by rfl, fun w hw => by go_simp⟩) h0 ?_
          simp only [Act.put, List.setIfInBounds_toArray, List.set_cons_zero, List.set_cons_succ]
          refine hd_take 9 (some 116) (.bool true) rfl rfl (by kernel_rfl) (by kernel_rfl) (by kernel_rfl) (fun _ _ _ h => h) (Or.inl ⟨by rfl, fun w hw => by go_simp⟩) h0 ?_
          simp only [Act.put, List.setIfInBounds_toArray, List.set_cons_zero, List.set_cons_succ]
          refine hd_take 10 (some 117) (.bool true) rfl rfl (by kernel_rfl) (by kernel_rfl) (by kernel_rfl) (fun _ _ _ h => h) (Or.inl ⟨by rfl, fun w hw => by go_simp⟩) h0 ?_
          simp only [Act.put, List.setIfInBounds_toArray, List.set_cons_zero, List.set_cons_succ]
          refine hd_take 11 (some 118) (.bool true) rfl rfl (by kernel_rfl) (by kernel_rfl) (by kernel_rfl) (fun _ _ _ h => h) (Or.inl ⟨by rfl, fun w hw => by go_simp⟩) h0 ?_
          simp only [Act.put, List.setIfInBounds_toArray, List.set_cons_zero, List.set_cons_succ]
          refine hd_take 12 (some 119) (.bool e) rfl rfl (by kernel_rfl) (by kernel_rfl) (by kernel_rfl) (fun _ _ _ h => h) (Or.inl ⟨by rfl, fun w hw => by go_simp⟩) h0 ?_
          simp only [Act.put, List.setIfInBounds_toArray, List.set_cons_zero, List.set_cons_succ]
          refine hd_take 13 (some 120) (.bool e) rfl rfl (by kernel_rfl) (by kernel_rfl) (by kernel_rfl) (fun _ _ _ h => h) (Or.inl ⟨by rfl, fun w hw => by go_simp⟩) h0 ?_
          simp only [Act.put, List.setIfInBounds_toArray, List.set_cons_zero, List.set_cons_succ]
          refine hd_take 14 (some 121) (.bool true) rfl rfl (by kernel_rfl) (by kernel_rfl) (by kernel_rfl) (fun _ _ _ h => h) (Or.inl ⟨by rfl, fun w hw => by go_simp⟩) h0 ?_
          simp only [Act.put, List.setIfInBounds_toArray, List.set_cons_zero, List.set_cons_succ]
          refine hd_take 15 (some 122) (.bool true) rfl rfl (by kernel_rfl) (by kernel_rfl) (by kernel_rfl) (fun _ _ _ h => h) (Or.inl ⟨by rfl, fun w hw => by go_simp⟩) h0 ?_
          simp only [Act.put, List.setIfInBounds_toArray, List.set_cons_zero, List.set_cons_succ]
          refine hd_take 16 (some 123) (.bool true) rfl rfl (by kernel_rfl) (by kernel_rfl) (by kernel_rfl) (fun _ _ _ h => h) (Or.inl ⟨by rfl, fun w hw => by go_simp⟩) h0 ?_
          simp only [Act.put, List.setIfInBounds_toArray, List.set_cons_zero, List.set_cons_succ]
          refine hd_take 17 (some 124) (.bool true) rfl rfl (by kernel_rfl) (by kernel_rfl) (by kernel_rfl) (fun _ _ _ h => h) (Or.inl ⟨by rfl, fun w hw => by go_simp⟩) h0 ?_
          simp only [Act.put, List.setIfInBounds_toArray, List.set_cons_zero, List.set_cons_succ]
          refine hd_take 18 (some 125) (.bool true) rfl rfl (by kernel_rfl) (by kernel_rfl) (by kernel_rfl) (fun _ _ _ h => h) (Or.inl ⟨by rfl, fun w hw => by go_simp⟩) h0 ?_
          simp only [Act.put, List.setIfInBounds_toArray, List.set_cons_zero, List.set_cons_succ]
          refine hd_take 19 (some 126) (.bool true) rfl rfl (by kernel_rfl) (by kernel_rfl) (by kernel_rfl) (fun _ _ _ h => h) (Or.inl ⟨by rfl, fun w hw => by go_simp⟩) h0 ?_
          simp only [Act.put, List.setIfInBounds_toArray, List.set_cons_zero, List.set_cons_succ]
          refine hd_take 20 (some 127) (.pointer (some ⟨g, 0, none⟩)) rfl rfl (by kernel_rfl) (by kernel_rfl) (by kernel_rfl) (fun _ _ _ h => h) (Or.inl ⟨by rfl, fun w hw => by go_simp⟩) h0 ?_
          simp only [Act.put, List.setIfInBounds_toArray, List.set_cons_zero, List.set_cons_succ]
          refine hd_take 22 (some 129) (.pointer (some ⟨y, 0, none⟩)) rfl rfl (by kernel_rfl) (by kernel_rfl) (by kernel_rfl) (fun _ _ _ h => h) (Or.inl ⟨by rfl, fun w hw => by go_simp⟩) h0 ?_
          simp only [Act.put, List.setIfInBounds_toArray, List.set_cons_zero, List.set_cons_succ]
          refine hd_take 23 (some 130) (.pointer (some ⟨y, 0, none⟩)) rfl rfl (by kernel_rfl) (by kernel_rfl) (by kernel_rfl) (fun _ _ _ h => h) (Or.inl ⟨by rfl, fun w hw => by go_simp⟩) h0 ?_
          simp only [Act.put, List.setIfInBounds_toArray, List.set_cons_zero, List.set_cons_succ]
          refine hd_take 24 (some 131) (.pointer (some ⟨y, 0, none⟩)) rfl rfl (by kernel_rfl) (by kernel_rfl) (by kernel_rfl) (fun _ _ _ h => h) (Or.inl ⟨by rfl, fun w hw => by go_simp⟩) h0 ?_
          simp only [Act.put, List.setIfInBounds_toArray, List.set_cons_zero, List.set_cons_succ]
          refine hd_take 25 (some 132) (.slice A3 N c3) rfl rfl (by kernel_rfl) (by kernel_rfl) (by kernel_rfl) (fun _ _ _ h => h) (Or.inl ⟨by rfl, fun w hw => by have h9 := hw.2.2; go_simp⟩) h0 ?_
          simp only [Act.put, List.setIfInBounds_toArray, List.set_cons_zero, List.set_cons_succ]
          refine wpAnyH_ready (rs := [21]) (by kernel_rfl) (by simp) (AllReadyH.cons rfl (fun K hK => ?_) AllReadyH.nil)
          go_simp
          go_wp2_with (go_at_call 25; refine (HC.out.rules_ HId.out.pl.t).mono ?_; rintro e' w14 ⟨v4, rfl, hv, hb⟩; obtain ⟨A4, c4, rfl, _, hs4⟩ := hv.src; have HS4 := Lib.hid hs4; have HI14 := Lib.hid (HId.out.on HC.out hb); clear hv hs4 hb)
          refine hK.out _ _ (HSt.out _ HI14.out) (fun h14 => ?_)
          clear hK K h0 HId
          have HSm3 := Lib.hid (rsame_any L L A4 A3 L.length N c4 c3 w14 HS4.out rfl (HSc.out _ HI14.out) HLN.out (by rw [HLN.out]; omega))
          rw [decide_eq_true (show L = L from rfl)] at HSm3
          refine wpAnyH_ready (rs := [26]) (by kernel_rfl) (by simp) (AllReadyH.cons rfl (fun K hK => ?_) AllReadyH.nil)
          go_simp
          go_wp2_with (go_at_call 26; refine HSm3.out.mono ?_; rintro e' w15 ⟨rfl, hb⟩; have HI15 := Lib.hid (HI14.out.on HC.out hb); clear hb)
          refine hK.out _ _ (HSt.out _ HI15.out) (fun h15 => ?_)
          clear hK K h14 HSm3 HI14 HS4
          refine hd_take 27 (some 134) (.bool true) rfl rfl (by kernel_rfl) (by kernel_rfl) (by kernel_rfl) (fun _ _ _ h => h) (Or.inl ⟨by rfl, fun w hw => by go_simp⟩) h15 ?_
          simp only [Act.put, List.setIfInBounds_toArray, List.set_cons_zero, List.set_cons_succ]
          refine hd_take 28 (some 8) (.bool true) rfl rfl (by kernel_rfl) (by kernel_rfl) (by kernel_rfl) (fun _ _ _ h => h) (Or.inl ⟨by rfl, fun w hw => by go_simp⟩) h15 ?_
          simp only [Act.put, List.setIfInBounds_toArray, List.set_cons_zero, List.set_cons_succ]
          refine wpAnyH_done (by kernel_rfl) ?_ _
          go_wp2_with fail
          go_ret
          exact ⟨rfl, HI15.out.pl.bel⟩
end Go.Proofs.YtlpondbcnfaggaaGreatDoor.Tr
