/-
  Contract of package trie's reach over this seat's translation: the node of a pattern's labels is there from then on. Condition: a name of up to 300 bytes, fewer than a million nodes.
-/
import Derived.Test.YtlpondbcnfaggaaGreatDoorR24
import Derived.Test.YtlpondbcnfaggaaGreatDoorR32
namespace Go.Proofs.YtlpondbcnfaggaaGreatDoor.Tr
open Go.RowKit Go.Proofs.YtlpondbcnfaggaaGreatDoor.Wd Go.Proofs.YtlpondbcnfaggaaGreatDoor.Asc Go.Proofs.YtlpondbcnfaggaaGreatDoor.Tx Go.Proofs.YtlpondbcnfaggaaGreatDoor.St Go.Proofs.YtlpondbcnfaggaaGreatDoor.Te Go.Maps

theorem undP : Tryz.prog.underlying 133 = some (.struct (Tryz.prog.fieldsOf 133)) := by kernel_rfl
theorem infP : (Tryz.prog.info? 133).map (·.size) = some 2 := by kernel_rfl
theorem spC_size (k : Nat) (x : List UInt8) : (spC k x).size = 2 := rfl
theorem spC_one (k : Nat) (x : List UInt8) : (spC k x).all (·.oneCell') = true := by simp [spC, Value.oneCell']
theorem infP' (k : Nat) (x : List UInt8) : (Tryz.prog.info? 133).map (·.size) = some (spC k x).toList.length := infP
theorem zeroI (w : World) : (zeroValue 3).run Tryz.prog w = .ok (.int .i64 0) w := by kernel_rfl
/-- a step in a new block -/
theorem sp_put (w : World) (k : Nat) (x : List UInt8) : ∃ w2, (w.alloc (.cells #[.int .i64 0, .string ⟨#[]⟩] 133)).setRow w.heap.size (spC k x) = w2 ∧ Blk w2 w.heap.size 133 (spC k x) ∧ Below w.heap.size w w2 :=
  ⟨_, rfl, setRow_blk (Blk.new _ _ _), setRow_below ((Below.refl _ _).alloc (Nat.le_refl _) _) (Blk.new _ _ _) (Nat.le_refl _) _⟩
section
variable {w : World} {sb sn : Nat} {D : DataW Unit} {PT : List (List (List UInt8))} {k : Nat} {x : List UInt8} {q : List (List UInt8)}
set_option maxRecDepth 100000 in
/-- a step that is there -/
theorem step_is (h : w.ownsMap Tryz.prog 133 (plainElem Tryz.prog 3) sb sn D) (hs : Steps D PT) (hk : k ≤ 4294967296) (hx : x.length ≤ 1000000) (hq : PT[k]? = some q) {j : Nat} (hj : PT[j]? = some (q ++ [x])) :
    (Instr.lookup 70 (.map (some sb)) (.agg (spC k x)) true).run Tryz.prog w = .ok (.tuple #[.int .i64 (j : Nat), .bool true]) w ∧
    (Instr.lookup 70 (.map (some sb)) (.agg (spC k x)) false).run Tryz.prog w = .ok (.int .i64 (j : Nat)) w := by
  have hh : Maps.has D (kS k x) = true := (hs.has k x hk hx).2 ⟨q, hq, List.mem_of_getElem? hj⟩
  have ha := fun z => hs.at_ k x q j z hk hx hq hj
  have hz0 : (Lit.int .i64 0).wf = true := by decide
  obtain ⟨v, ps, h1, h2⟩ := h.look_ok keyedP undStp (zeroI w) (plainElem_int Tryz.underlying3 hz0) (keyP k x hk hx)
  obtain ⟨v', ps', h3, h4⟩ := h.lookup keyedP undStp (zeroI w) (plainElem_int Tryz.underlying3 hz0) (keyP k x hk hx)
  rw [ha] at h2 h4
  obtain ⟨a, rfl, e, _⟩ := plainElem_int_inv Tryz.underlying3 h2
  obtain ⟨a', rfl, e', _⟩ := plainElem_int_inv Tryz.underlying3 h4
  injection e with e _
  injection e with e
  injection e with _ e
  injection e' with e' _
  injection e' with e'
  injection e' with _ e'
  subst e e'
  rw [hh] at h1
  exact ⟨h1, h3⟩
set_option maxRecDepth 100000 in
/-- a step that is not there -/
theorem step_not (h : w.ownsMap Tryz.prog 133 (plainElem Tryz.prog 3) sb sn D) (hs : Steps D PT) (hk : k ≤ 4294967296) (hx : x.length ≤ 1000000) (hq : PT[k]? = some q) (hn : q ++ [x] ∉ PT) :
    (Instr.lookup 70 (.map (some sb)) (.agg (spC k x)) true).run Tryz.prog w = .ok (.tuple #[.int .i64 0, .bool false]) w := by
  have hh : Maps.has D (kS k x) = false := by
    cases hc : Maps.has D (kS k x) with
    | false => rfl
    | true =>
      obtain ⟨q', a, b⟩ := (hs.has k x hk hx).1 hc
      rw [hq] at a
      injection a with a
      exact absurd (a ▸ b) hn
  have hz0 : (Lit.int .i64 0).wf = true := by decide
  obtain ⟨v, ps, h1, h2⟩ := h.look_ok keyedP undStp (zeroI w) (plainElem_int Tryz.underlying3 hz0) (keyP k x hk hx)
  rw [atKey_of_not_has hh] at h2
  obtain ⟨a, rfl, e, _⟩ := plainElem_int_inv Tryz.underlying3 h2
  injection e with e _
  injection e with e
  injection e with _ e
  subst e
  rw [hh] at h1
  exact h1
end
theorem but_more {A S : List Nat} {w ww w' : World} (h : But A w ww) (k : But S ww w') (hS : ∀ i ∈ S, i ∈ A ∨ w.heap.size ≤ i) : But A w w' :=
  ⟨k.os.trans h.os, k.tape.trans h.tape, k.output.trans h.output, Nat.le_trans h.size k.size, fun i hi hn => (k.block i (Nat.lt_of_lt_of_le hi h.size) (fun hm => by
    rcases hS i hm with h1 | h1
    · exact hn h1
    · omega)).trans (h.block i hi hn)⟩
/-- what reach keeps: behind k labels it stands at the node a -/
structure RchI (w : World) (g : Nat) (S2 : List Nat) (L : List Ru) (vr : Value) (tb sb : Nat) (ls : List (List UInt8)) (M k a : Nat) (ww : World) (S' : List Nat) (sn : Nat) (D : DataW Unit) (vn : Value) (N : List (Sv × Sv)) (PT : List (List (List UInt8))) : Prop where
  at_ : PT[a]? = some (ls.take k)
  blk : Blk ww g 73 (trC4 vr tb sb vn)
  nod : NodesIs ww S' L sb sn D vn N PT
  new : ∀ i ∈ S', i ∈ S2 ∨ w.heap.size ≤ i
  lt : ∀ i ∈ S', i < ww.heap.size
  sub : ∀ i ∈ S2, i ∈ S'
  gn : g ∉ S'
  sns : sn ≤ PT.length
  pts : PT.length ≤ M + k
  but : But (g :: S2) w ww
theorem RchI.below {w : World} {g : Nat} {S2 : List Nat} {L : List Ru} {vr : Value} {tb sb : Nat} {ls : List (List UInt8)} {M k a : Nat} {ww w' : World} {S' : List Nat} {sn : Nat} {D : DataW Unit} {vn : Value} {N : List (Sv × Sv)} {PT : List (List (List UInt8))}
    (h : RchI w g S2 L vr tb sb ls M k a ww S' sn D vn N PT) (hb : Below ww.heap.size ww w') : RchI w g S2 L vr tb sb ls M k a w' S' sn D vn N PT :=
  ⟨h.at_, h.blk.below hb h.blk.lt, h.nod.below hb, h.new, fun i hi => Nat.lt_of_lt_of_le (h.lt i hi) hb.size, h.sub, h.gn, h.sns, h.pts, but_more h.but (But.of_below hb []) (fun i hi => by cases hi)⟩
def RchP (w : World) (g : Nat) (S2 : List Nat) (L : List Ru) (vr : Value) (tb sb : Nat) (ls : List (List UInt8)) (M k a : Nat) (ww : World) : Prop := ∃ S' sn D vn N PT, RchI w g S2 L vr tb sb ls M k a ww S' sn D vn N PT
theorem labP_len (N : List UInt8) : (labP N).length ≤ N.length + 1 ∧ ∀ x ∈ labP N, x.length ≤ N.length := by
  unfold labP
  split
  · simp
  · unfold Nm.labelsS
    split
    · simp
    · rw [List.length_reverse]
      refine ⟨Nm.spl_len 46 N, fun x hx => Nm.spl_mem 46 N x (List.mem_reverse.1 hx)⟩
/-- what the round finds at a trie's block -/
theorem RchI.cells {w : World} {g : Nat} {S2 : List Nat} {L : List Ru} {vr : Value} {tb sb : Nat} {ls : List (List UInt8)} {M k a : Nat} {ww : World} {S' : List Nat} {sn : Nat} {D : DataW Unit} {vn : Value} {N : List (Sv × Sv)} {PT : List (List (List UInt8))}
    (h : RchI w g S2 L vr tb sb ls M k a ww S' sn D vn N PT) : ww.cell? ⟨g, 2, none⟩ = some (.map (some sb)) ∧ ww.cell? ⟨g, 3, none⟩ = some vn ∧ ww.frozen? ⟨g, 3, none⟩ = false :=
  ⟨h.blk.cell 2, h.blk.cell 3, h.blk.frozen 3⟩
theorem but_grown {w w' : World} {row : Option Nat} (h : w.grownBy w' row) : But row.toList w w' :=
  ⟨h.os, h.tape, h.output, h.size, fun i hi hn => h.block i hi (fun e => hn (by rw [← e]; simp))⟩
/-- a step more, in memory -/
theorem RchI.step {w : World} {g : Nat} {S2 : List Nat} {L : List Ru} {vr : Value} {tb sb : Nat} {ls : List (List UInt8)} {M k a : Nat} {w4 : World} {S' : List Nat} {sn : Nat} {D : DataW Unit} {vn : Value} {N : List (Sv × Sv)} {PT : List (List (List UInt8))}
    (h : RchI w g S2 L vr tb sb ls M k a w4 S' sn D vn N PT) {x : List UInt8} (hT : ls.take (k + 1) = ls.take k ++ [x]) (hn : ls.take (k + 1) ∉ PT) (ha : a ≤ 4294967296) (hx : x.length ≤ 1000000) {w5 w6 : World} {v6 : Value}
    (hown : w5.ownsMap Tryz.prog 133 (plainElem Tryz.prog 3) sb (sn + 1) (D.put (kS a x) (.lit (.int .i64 (PT.length : Nat))))) (h45 : But [sb] w4 w5) (h56 : But vn.ownBlock.toList w5 w6)
    (ho : OwnE w6 elN 0 v6 (N ++ [(Sv.zero, Sv.zero)])) (hv6 : v6.ownBlock = vn.ownBlock ∨ ∃ b, v6.ownBlock = some b ∧ w5.heap.size ≤ b) :
    ∃ S'', RchI w g S2 L vr tb sb ls M (k + 1) PT.length (w6.setCell ⟨g, 3, none⟩ v6) S'' (sn + 1) (D.put (kS a x) (.lit (.int .i64 (PT.length : Nat)))) v6 (N ++ [(Sv.zero, Sv.zero)]) (PT ++ [ls.take k ++ [x]]) := by
  have hvt : ∀ b, vn.ownBlock = some b → ∃ cur, Blk w4 b 128 cur := h.nod.nod.typ
  have hsbg : sb ≠ g := fun e => h.gn (e ▸ h.nod.in1)
  have hvg : ∀ b, vn.ownBlock = some b → b ≠ g := fun b hb e => h.gn (e ▸ h.nod.in2 b hb)
  have hvs : ∀ b, vn.ownBlock = some b → b ≠ sb := fun b hb e => by
    obtain ⟨cur, hc⟩ := hvt b hb
    exact map_ne h.nod.stp hc e.symm
  have z45 := h45.size
  have z56 := h56.size
  have h67 : But [g] w6 (w6.setCell ⟨g, 3, none⟩ v6) := (But.refl [g] w6).set_ (p := ⟨g, 3, none⟩) (.inl (by simp)) v6
  have z67 := h67.size
  have hg4 := h.blk.lt
  have b5 := h.blk.but h45 (by simpa using fun e => hsbg e.symm)
  have b6 : Blk w6 g 73 (trC4 vr tb sb vn) := b5.but h56 (fun hm => by
    rw [Option.mem_toList] at hm
    exact hvg g hm rfl)
  have b7 : Blk (w6.setCell ⟨g, 3, none⟩ v6) g 73 (trC4 vr tb sb v6) := by
    have := b6.set_ 3 v6
    rwa [show (trC4 vr tb sb vn).setIfInBounds 3 v6 = trC4 vr tb sb v6 by simp [trC4]] at this
  have h47 : But (sb :: g :: vn.ownBlock.toList) w4 (w6.setCell ⟨g, 3, none⟩ v6) :=
    ((h45.more (T := sb :: g :: vn.ownBlock.toList) (fun i hi => by simp at hi; simp [hi])).trans (h56.more (fun i hi => by simp at hi ⊢; simp [hi]))).trans (h67.more (fun i hi => by simp at hi; simp [hi]))
  have hm7 : (w6.setCell ⟨g, 3, none⟩ v6).ownsMap Tryz.prog 133 (plainElem Tryz.prog 3) sb (sn + 1) (D.put (kS a x) (.lit (.int .i64 (PT.length : Nat)))) :=
    map_but (map_but hown h56 (fun hm => by
      rw [Option.mem_toList] at hm
      exact hvs sb hm rfl)) h67 (by simpa using hsbg)
  have ho7 : OwnE (w6.setCell ⟨g, 3, none⟩ v6) elN 0 v6 (N ++ [(Sv.zero, Sv.zero)]) := ho.but h67 (fun b hb => by
    rw [List.mem_singleton]
    rcases hv6 with e | ⟨c, e, hc⟩
    · rw [e] at hb; exact hvg b hb
    · rw [e] at hb; injection hb with hb; omega)
  have hSn : ∀ i ∈ newB w4 (w6.setCell ⟨g, 3, none⟩ v6), w4.heap.size ≤ i ∧ i < (w6.setCell ⟨g, 3, none⟩ v6).heap.size := fun i hi => (newB_mem (by omega)).1 hi
  refine ⟨S' ++ newB w4 (w6.setCell ⟨g, 3, none⟩ v6), ?_⟩
  refine ⟨by rw [← hT]; exact snoc_last _ _, b7, ?_, fun i hi => ?_, fun i hi => ?_, fun i hi => List.mem_append_left _ (h.sub i hi), fun hm => ?_, ?_, ?_, but_more h.but h47 (fun i hi => ?_)⟩
  · refine h.nod.add_step ha hx h.at_ (by rw [← hT]; exact hn) hm7 ho7 h47 (fun b hb cur hc => ?_) (fun i hi => List.mem_append_left _ hi) (fun b hb => ?_)
    · simp only [List.mem_cons, Option.mem_toList] at hb
      rcases hb with rfl | rfl | hb
      · exact map_ne h.nod.stp hc rfl
      · exact absurd rfl (h.blk.ne_ hc (by decide))
      · obtain ⟨cur', hc'⟩ := hvt b hb
        exact absurd rfl (hc'.ne_ hc (by decide))
    · rcases hv6 with e | ⟨c, e, hc⟩
      · rw [e] at hb
        exact List.mem_append_left _ (h.nod.in2 b hb)
      · have hb7 := ho7.lt b hb
        rw [e] at hb
        injection hb with hb
        refine List.mem_append_right _ ((newB_mem (by omega)).2 ⟨by omega, hb7⟩)
  · rcases List.mem_append.1 hi with hi | hi
    · exact h.new i hi
    · have := hSn i hi
      have := h.but.size
      exact .inr (by omega)
  · rcases List.mem_append.1 hi with hi | hi
    · have := h.lt i hi; omega
    · exact (hSn i hi).2
  · rcases List.mem_append.1 hm with hm | hm
    · exact h.gn hm
    · have := hSn g hm; omega
  · have := h.sns
    rw [List.length_append, List.length_singleton]; omega
  · have := h.pts
    rw [List.length_append, List.length_singleton]; omega
  · simp only [List.mem_cons, Option.mem_toList] at hi
    rcases hi with rfl | rfl | hi
    · rcases h.new _ h.nod.in1 with h1 | h1
      · exact .inl (List.mem_cons_of_mem _ h1)
      · exact .inr h1
    · exact .inl (by simp)
    · rcases h.new _ (h.nod.in2 i hi) with h1 | h1
      · exact .inl (List.mem_cons_of_mem _ h1)
      · exact .inr h1
theorem len_int (w : World) (A : Option Addr) (n c : Nat) (ty : TypeId) : (Builtin.len_ #[71] ty #[.slice A n c]).run Tryz.prog w = .ok (.int .i64 (n : Nat)) w := by
  simp [Builtin.len_, run_underlying Tryz.underlying71, goInt, Result.andThen]
set_option linter.unusedSimpArgs false in
set_option maxRecDepth 100000 in
set_option maxHeartbeats 32000000 in
theorem treach_any {B : Nat} (X : ByteArray) (b : Bool) (w : World) (hE : Ad.Env B w) (hX : X.size ≤ 300) {g : Nat} {S2 : List Nat} {L : List Ru} {vr : Value} {tb sb sn : Nat} {D : DataW Unit} {vn : Value} {N : List (Sv × Sv)} {PT : List (List (List UInt8))}
    (hblk : Blk w g 73 (trC4 vr tb sb vn)) (hnod : NodesIs w S2 L sb sn D vn N PT) (hg : g ∉ S2) (hlt : ∀ i ∈ S2, i < w.heap.size) (hsn : sn ≤ PT.length) (hpt : PT.length ≤ 1000000) :
    Calls Tryz.prog 77 #[.pointer (some ⟨g, 0, none⟩), .agg (shC X b)] w fun e w' => ∃ a : Nat, e = .returned (.int .i64 (a : Nat)) ∧ RchP w g S2 L vr tb sb (labP (bs X)) PT.length (labP (bs X)).length a w' := by
  obtain ⟨ls, hls⟩ : ∃ ls, labP (bs X) = ls := ⟨_, rfl⟩
  obtain ⟨M, hM⟩ : ∃ M, PT.length = M := ⟨_, rfl⟩
  have hll := labP_len (bs X)
  rw [bs_length, hls] at hll
  have hb0 := Blk.new w 63 (shC X b)
  have hl0 : Below w.heap.size w (w.alloc (.cells (shC X b) 63)) := (Below.refl _ _).alloc (Nat.le_refl _) _
  have HI0 : Hid (RchI w g S2 L vr tb sb ls M 0 0 w S2 sn D vn N PT) := Lib.hid ⟨hnod.ste.root, hblk, hnod, fun i hi => .inl hi, hlt, fun _ h => h, hg, hsn, by omega, But.refl _ _⟩
  have HLb := Lib.hid (fun w' (hb : Below w.heap.size w w') => tlabels_any (B := B) X b w' (hE.on hb) (by omega))
  rw [hls] at HLb ⊢
  rw [hM]
  obtain ⟨n, hn⟩ : ∃ n, ls.length = n := ⟨_, rfl⟩
  rw [hn] at HLb hll ⊢
  have HN := Lib.hid hn
  have HZ := Lib.hid (show ∀ x ∈ ls, x.length ≤ 1000000 from fun x hx => by have := hll.2 x hx; omega)
  have hnl : n ≤ 301 := by omega
  have hMl : M ≤ 1000000 := by omega
  have HB := Lib.hid hl0
  clear hls hM hll hblk hnod hg hlt hsn hpt hE hX hn hl0
  go_enter Tryz.func77, Tryz.ntmps77
  go_upto_region 1 with fail
  generalize w.alloc (.cells (shC X b) 63) = w1 at *
  go_wp2_with (refine go_ld (x := .tmp 3) 63 hb0 undH rfl infH (shC_size _ _) rfl rfl rfl ?_)
  refine (HLb.out _ HB.out).mono ?_
  rintro e w2 ⟨A, c, rfl, hrow, hb2⟩
  have HI2 := Lib.hid (HI0.out.below (HB.out.trans (hb2.mono HB.out.size)))
  have HR2 := Lib.hid hrow
  clear hrow hb2 hb0 HB HLb HI0
  go_wp2_with fail
  go_loopw [5, 14] (fun x5 x14 wr => ∃ (k a : Nat) (ww : World), ww = wr ∧ k ≤ n ∧ x5 = .int .i64 (a : Nat) ∧ x14 = .int .i64 (k : Nat) ∧ Hid (RchP w g S2 L vr tb sb ls M k a ww) ∧ Hid (RowT ww A ls)) (fun _ x14 _ => n - (intOf x14).toNat)
  case atStart => exact ⟨0, 0, w2, rfl, Nat.zero_le _, rfl, rfl, Lib.hid ⟨_, _, _, _, _, _, HI2.out⟩, HR2⟩
  case round =>
    clear HI2 HR2
    obtain ⟨k, a, ww, rfl, hk, rfl, rfl, HP, HR⟩ := hrel
    by_cases hlt : k < n
    · have hki : (k : Int) < (n : Int) := by omega
      obtain ⟨S', sn, D, vn, N, PT, hI⟩ := HP.out
      obtain ⟨x, hx⟩ : ∃ x, ls[k]? = some x := ⟨_, List.getElem?_eq_getElem (by rw [HN.out]; exact hlt)⟩
      obtain ⟨gl, rfl, hgl, hcl⟩ := HR.out.at_ hx
      have hxz := HZ.out x (List.mem_of_getElem? hx)
      have hal : a ≤ 4294967296 := by
        have h1 := (List.getElem?_eq_some_iff.1 hI.at_).1
        have := hI.pts
        omega
      have HTk := Lib.hid (show ls.take (k + 1) = ls.take k ++ [x] by rw [List.take_add_one, hx]; rfl)
      have HA := Lib.hid hal
      have HXz := Lib.hid hxz
      have HI := Lib.hid hI
      have HR := Lib.hid HR.out
      clear hx hgl hxz hal hI HP
      go_upto_region 6 with (refine go_st 133 (Blk.new _ _ _) infP rfl (spC_size a x) (spC_one _ _) rfl rfl rfl rfl ?_)
      obtain ⟨w3, hw3, hb3, hl3⟩ := sp_put ww a x
      rw [hw3]
      obtain ⟨st, hst⟩ : ∃ st, ww.heap.size = st := ⟨_, rfl⟩
      have HI := Lib.hid (HI.out.below hl3)
      have HR := Lib.hid (HR.out.below hl3)
      rw [hst] at hb3 ⊢
      have HBs := Lib.hid hb3
      clear hw3 hb3 hl3 hst hcl
      have HSS := Lib.hid (fun (w' : World) (hI : RchI w g S2 L vr tb sb ls M k a w' S' sn D vn N PT) (hs : Blk w' st 133 (spC a x)) => show w'.cell? ⟨g, 2, none⟩ = some (.map (some sb)) ∧ w'.rangeAt st 0 (spC a x).toList ∧ w'.ownsMap Tryz.prog 133 (plainElem Tryz.prog 3) sb sn D from ⟨hI.cells.1, range_b hs, hI.nod.stp⟩)
      by_cases hm : ls.take (k + 1) ∈ PT
      · obtain ⟨j, hj⟩ := List.getElem?_of_mem hm
        have HJ := Lib.hid hj
        have HLK := Lib.hid (fun (w' : World) (h : w'.ownsMap Tryz.prog 133 (plainElem Tryz.prog 3) sb sn D) => (step_is h HI.out.nod.ste HA.out HXz.out HI.out.at_ (by rw [← HTk.out]; exact HJ.out)).1)
        have HLK2 := Lib.hid (fun (w' : World) (h : w'.ownsMap Tryz.prog 133 (plainElem Tryz.prog 3) sb sn D) => (step_is h HI.out.nod.ste HA.out HXz.out HI.out.at_ (by rw [← HTk.out]; exact HJ.out)).2)
        clear hm hj
        refine wp_region_held_drew (S := fun w' => w'.cell? ⟨g, 2, none⟩ = some (.map (some sb)) ∧ w'.rangeAt st 0 (spC a x).toList ∧ w'.ownsMap Tryz.prog 133 (plainElem Tryz.prog 3) sb sn D) (by kernel_rfl) (HSS.out _ (HI.out.below (show Below w3.heap.size w3 w3.drew from (Below.refl _ _).drew)) (HBs.out.below (show Below w3.heap.size w3 w3.drew from (Below.refl _ _).drew) HBs.out.lt)) (fun h0 => ?_)
        refine hd_take 0 (some 22) (.pointer (some ⟨g, 0, none⟩)) rfl rfl (by kernel_rfl) (by kernel_rfl) (by kernel_rfl) (fun _ _ _ h => h) (Or.inl ⟨by rfl, fun w hw => by go_simp⟩) h0 ?_
        simp only [Act.put, List.setIfInBounds_toArray, List.set_cons_zero, List.set_cons_succ]
        refine hd_take 1 (some 23) (.pointer (some ⟨g, 0, none⟩)) rfl rfl (by kernel_rfl) (by kernel_rfl) (by kernel_rfl) (fun _ _ _ h => h) (Or.inl ⟨by rfl, fun w hw => by go_simp⟩) h0 ?_
        simp only [Act.put, List.setIfInBounds_toArray, List.set_cons_zero, List.set_cons_succ]
        refine hd_take 2 (some 24) (.pointer (some ⟨g, 2, none⟩)) rfl rfl (by kernel_rfl) (by kernel_rfl) (by kernel_rfl) (fun _ _ _ h => h) (Or.inl ⟨by rfl, fun w hw => by go_simp⟩) h0 ?_
        simp only [Act.put, List.setIfInBounds_toArray, List.set_cons_zero, List.set_cons_succ]
        refine hd_take 3 (some 25) (.map (some sb)) rfl rfl (by kernel_rfl) (by kernel_rfl) (by kernel_rfl) (fun _ _ _ h => h) (Or.inl ⟨by rfl, fun w hw => by have h9 := hw.1; go_simp⟩) h0 ?_
        simp only [Act.put, List.setIfInBounds_toArray, List.set_cons_zero, List.set_cons_succ]
        refine hd_take 4 (some 26) (.agg (spC a x)) rfl rfl (by kernel_rfl) (by kernel_rfl) (by kernel_rfl) (fun _ _ _ h => h) (yieldsIf_load_mid (by rfl) _ _ rfl st 0 rfl (spC a x).toList _ (fun _ h => h.2.1) undP rfl (infP' a x)) h0 ?_
        simp only [Act.put, List.setIfInBounds_toArray, List.set_cons_zero, List.set_cons_succ]
        refine hd_take 5 (some 27) (.tuple #[.int .i64 (j : Nat), .bool true]) rfl rfl (by kernel_rfl) (by kernel_rfl) (by kernel_rfl) (fun _ _ _ h => h) (Or.inl ⟨by rfl, fun w hw => by have h9 := HLK.out w hw.2.2; go_simp⟩) h0 ?_
        simp only [Act.put, List.setIfInBounds_toArray, List.set_cons_zero, List.set_cons_succ]
        refine hd_take 6 (some 21) (.tuple #[.int .i64 (j : Nat), .bool true]) rfl rfl (by kernel_rfl) (by kernel_rfl) (by kernel_rfl) (fun _ _ _ h => h) (Or.inl ⟨by rfl, fun w hw => by go_simp⟩) h0 ?_
        simp only [Act.put, List.setIfInBounds_toArray, List.set_cons_zero, List.set_cons_succ]
        refine hd_take 7 (some 28) (.int .i64 (j : Nat)) rfl rfl (by kernel_rfl) (by kernel_rfl) (by kernel_rfl) (fun _ _ _ h => h) (Or.inl ⟨by rfl, fun w hw => by go_simp⟩) h0 ?_
        simp only [Act.put, List.setIfInBounds_toArray, List.set_cons_zero, List.set_cons_succ]
        refine hd_take 8 (some 29) (.bool true) rfl rfl (by kernel_rfl) (by kernel_rfl) (by kernel_rfl) (fun _ _ _ h => h) (Or.inl ⟨by rfl, fun w hw => by go_simp⟩) h0 ?_
        simp only [Act.put, List.setIfInBounds_toArray, List.set_cons_zero, List.set_cons_succ]
        refine hd_take 9 (some 9) (.int .i64 (j : Nat)) rfl rfl (by kernel_rfl) (by kernel_rfl) (by kernel_rfl) (fun _ _ _ h => h) (Or.inl ⟨by rfl, fun w hw => by go_simp⟩) h0 ?_
        simp only [Act.put, List.setIfInBounds_toArray, List.set_cons_zero, List.set_cons_succ]
        refine hd_take 10 (some 10) (.bool true) rfl rfl (by kernel_rfl) (by kernel_rfl) (by kernel_rfl) (fun _ _ _ h => h) (Or.inl ⟨by rfl, fun w hw => by go_simp⟩) h0 ?_
        simp only [Act.put, List.setIfInBounds_toArray, List.set_cons_zero, List.set_cons_succ]
        refine wpAnyH_done (by kernel_rfl) ?_ _
        have HI := Lib.hid (HI.out.below (show Below w3.heap.size w3 w3.drew from (Below.refl _ _).drew))
        have HBs := Lib.hid (HBs.out.below (show Below w3.heap.size w3 w3.drew from (Below.refl _ _).drew) HBs.out.lt)
        have HR := Lib.hid (HR.out.below (show Below w3.heap.size w3 w3.drew from (Below.refl _ _).drew))
        generalize w3.drew = w4 at *
        go_wp2_with fail
        refine wp_region_held_drew (S := fun w' => w'.cell? ⟨g, 2, none⟩ = some (.map (some sb)) ∧ w'.rangeAt st 0 (spC a x).toList ∧ w'.ownsMap Tryz.prog 133 (plainElem Tryz.prog 3) sb sn D) (by kernel_rfl) (HSS.out _ (HI.out.below (show Below w4.heap.size w4 w4.drew from (Below.refl _ _).drew)) (HBs.out.below (show Below w4.heap.size w4 w4.drew from (Below.refl _ _).drew) HBs.out.lt)) (fun h0 => ?_)
        refine hd_take 0 (some 52) (.pointer (some ⟨g, 0, none⟩)) rfl rfl (by kernel_rfl) (by kernel_rfl) (by kernel_rfl) (fun _ _ _ h => h) (Or.inl ⟨by rfl, fun w hw => by go_simp⟩) h0 ?_
        simp only [Act.put, List.setIfInBounds_toArray, List.set_cons_zero, List.set_cons_succ]
        refine hd_take 1 (some 53) (.pointer (some ⟨g, 0, none⟩)) rfl rfl (by kernel_rfl) (by kernel_rfl) (by kernel_rfl) (fun _ _ _ h => h) (Or.inl ⟨by rfl, fun w hw => by go_simp⟩) h0 ?_
        simp only [Act.put, List.setIfInBounds_toArray, List.set_cons_zero, List.set_cons_succ]
        refine hd_take 2 (some 54) (.pointer (some ⟨g, 2, none⟩)) rfl rfl (by kernel_rfl) (by kernel_rfl) (by kernel_rfl) (fun _ _ _ h => h) (Or.inl ⟨by rfl, fun w hw => by go_simp⟩) h0 ?_
        simp only [Act.put, List.setIfInBounds_toArray, List.set_cons_zero, List.set_cons_succ]
        refine hd_take 3 (some 55) (.map (some sb)) rfl rfl (by kernel_rfl) (by kernel_rfl) (by kernel_rfl) (fun _ _ _ h => h) (Or.inl ⟨by rfl, fun w hw => by have h9 := hw.1; go_simp⟩) h0 ?_
        simp only [Act.put, List.setIfInBounds_toArray, List.set_cons_zero, List.set_cons_succ]
        refine hd_take 4 (some 56) (.agg (spC a x)) rfl rfl (by kernel_rfl) (by kernel_rfl) (by kernel_rfl) (fun _ _ _ h => h) (yieldsIf_load_mid (by rfl) _ _ rfl st 0 rfl (spC a x).toList _ (fun _ h => h.2.1) undP rfl (infP' a x)) h0 ?_
        simp only [Act.put, List.setIfInBounds_toArray, List.set_cons_zero, List.set_cons_succ]
        refine hd_take 5 (some 57) (.int .i64 (j : Nat)) rfl rfl (by kernel_rfl) (by kernel_rfl) (by kernel_rfl) (fun _ _ _ h => h) (Or.inl ⟨by rfl, fun w hw => by have h9 := HLK2.out w hw.2.2; go_simp⟩) h0 ?_
        simp only [Act.put, List.setIfInBounds_toArray, List.set_cons_zero, List.set_cons_succ]
        refine hd_take 6 (some 5) (.int .i64 (j : Nat)) rfl rfl (by kernel_rfl) (by kernel_rfl) (by kernel_rfl) (fun _ _ _ h => h) (Or.inl ⟨by rfl, fun w hw => by go_simp⟩) h0 ?_
        simp only [Act.put, List.setIfInBounds_toArray, List.set_cons_zero, List.set_cons_succ]
        refine wpAnyH_done (by kernel_rfl) ?_ _
        have HI := Lib.hid (HI.out.below (show Below w4.heap.size w4 w4.drew from (Below.refl _ _).drew))
        have HR := Lib.hid (HR.out.below (show Below w4.heap.size w4 w4.drew from (Below.refl _ _).drew))
        go_wp2_with fail
        go_roundw
        case rel => exact ⟨k + 1, j, _, rfl, by omega, rfl, by go_num, Lib.hid ⟨S', sn, D, vn, N, PT, ⟨HJ.out, HI.out.blk, HI.out.nod, HI.out.new, HI.out.lt, HI.out.sub, HI.out.gn, HI.out.sns, Nat.le_trans HI.out.pts (Nat.le_succ _), HI.out.but⟩⟩, HR⟩
        case measure => simp [intOf]; omega
      · have HLK := Lib.hid (fun (w' : World) (h : w'.ownsMap Tryz.prog 133 (plainElem Tryz.prog 3) sb sn D) => step_not h HI.out.nod.ste HA.out HXz.out HI.out.at_ (by rw [← HTk.out]; exact hm))
        have HM := Lib.hid hm
        clear hm
        refine wp_region_held_drew (S := fun w' => w'.cell? ⟨g, 2, none⟩ = some (.map (some sb)) ∧ w'.rangeAt st 0 (spC a x).toList ∧ w'.ownsMap Tryz.prog 133 (plainElem Tryz.prog 3) sb sn D) (by kernel_rfl) (HSS.out _ (HI.out.below (show Below w3.heap.size w3 w3.drew from (Below.refl _ _).drew)) (HBs.out.below (show Below w3.heap.size w3 w3.drew from (Below.refl _ _).drew) HBs.out.lt)) (fun h0 => ?_)
        refine hd_take 0 (some 22) (.pointer (some ⟨g, 0, none⟩)) rfl rfl (by kernel_rfl) (by kernel_rfl) (by kernel_rfl) (fun _ _ _ h => h) (Or.inl ⟨by rfl, fun w hw => by go_simp⟩) h0 ?_
        simp only [Act.put, List.setIfInBounds_toArray, List.set_cons_zero, List.set_cons_succ]
        refine hd_take 1 (some 23) (.pointer (some ⟨g, 0, none⟩)) rfl rfl (by kernel_rfl) (by kernel_rfl) (by kernel_rfl) (fun _ _ _ h => h) (Or.inl ⟨by rfl, fun w hw => by go_simp⟩) h0 ?_
        simp only [Act.put, List.setIfInBounds_toArray, List.set_cons_zero, List.set_cons_succ]
        refine hd_take 2 (some 24) (.pointer (some ⟨g, 2, none⟩)) rfl rfl (by kernel_rfl) (by kernel_rfl) (by kernel_rfl) (fun _ _ _ h => h) (Or.inl ⟨by rfl, fun w hw => by go_simp⟩) h0 ?_
        simp only [Act.put, List.setIfInBounds_toArray, List.set_cons_zero, List.set_cons_succ]
        refine hd_take 3 (some 25) (.map (some sb)) rfl rfl (by kernel_rfl) (by kernel_rfl) (by kernel_rfl) (fun _ _ _ h => h) (Or.inl ⟨by rfl, fun w hw => by have h9 := hw.1; go_simp⟩) h0 ?_
        simp only [Act.put, List.setIfInBounds_toArray, List.set_cons_zero, List.set_cons_succ]
        refine hd_take 4 (some 26) (.agg (spC a x)) rfl rfl (by kernel_rfl) (by kernel_rfl) (by kernel_rfl) (fun _ _ _ h => h) (yieldsIf_load_mid (by rfl) _ _ rfl st 0 rfl (spC a x).toList _ (fun _ h => h.2.1) undP rfl (infP' a x)) h0 ?_
        simp only [Act.put, List.setIfInBounds_toArray, List.set_cons_zero, List.set_cons_succ]
        refine hd_take 5 (some 27) (.tuple #[.int .i64 0, .bool false]) rfl rfl (by kernel_rfl) (by kernel_rfl) (by kernel_rfl) (fun _ _ _ h => h) (Or.inl ⟨by rfl, fun w hw => by have h9 := HLK.out w hw.2.2; go_simp⟩) h0 ?_
        simp only [Act.put, List.setIfInBounds_toArray, List.set_cons_zero, List.set_cons_succ]
        refine hd_take 6 (some 21) (.tuple #[.int .i64 0, .bool false]) rfl rfl (by kernel_rfl) (by kernel_rfl) (by kernel_rfl) (fun _ _ _ h => h) (Or.inl ⟨by rfl, fun w hw => by go_simp⟩) h0 ?_
        simp only [Act.put, List.setIfInBounds_toArray, List.set_cons_zero, List.set_cons_succ]
        refine hd_take 7 (some 28) (.int .i64 0) rfl rfl (by kernel_rfl) (by kernel_rfl) (by kernel_rfl) (fun _ _ _ h => h) (Or.inl ⟨by rfl, fun w hw => by go_simp⟩) h0 ?_
        simp only [Act.put, List.setIfInBounds_toArray, List.set_cons_zero, List.set_cons_succ]
        refine hd_take 8 (some 29) (.bool false) rfl rfl (by kernel_rfl) (by kernel_rfl) (by kernel_rfl) (fun _ _ _ h => h) (Or.inl ⟨by rfl, fun w hw => by go_simp⟩) h0 ?_
        simp only [Act.put, List.setIfInBounds_toArray, List.set_cons_zero, List.set_cons_succ]
        refine hd_take 9 (some 9) (.int .i64 0) rfl rfl (by kernel_rfl) (by kernel_rfl) (by kernel_rfl) (fun _ _ _ h => h) (Or.inl ⟨by rfl, fun w hw => by go_simp⟩) h0 ?_
        simp only [Act.put, List.setIfInBounds_toArray, List.set_cons_zero, List.set_cons_succ]
        refine hd_take 10 (some 10) (.bool false) rfl rfl (by kernel_rfl) (by kernel_rfl) (by kernel_rfl) (fun _ _ _ h => h) (Or.inl ⟨by rfl, fun w hw => by go_simp⟩) h0 ?_
        simp only [Act.put, List.setIfInBounds_toArray, List.set_cons_zero, List.set_cons_succ]
        refine wpAnyH_done (by kernel_rfl) ?_ _
        have HI := Lib.hid (HI.out.below (show Below w3.heap.size w3 w3.drew from (Below.refl _ _).drew))
        have HBs := Lib.hid (HBs.out.below (show Below w3.heap.size w3 w3.drew from (Below.refl _ _).drew) HBs.out.lt)
        have HR := Lib.hid (HR.out.below (show Below w3.heap.size w3 w3.drew from (Below.refl _ _).drew))
        generalize w3.drew = w4 at *
        go_wp2_with fail
        have hlen := HI.out.nod.len
        obtain ⟨AN, cN, hvn, _, _, _⟩ := HI.out.nod.nod.src fineN
        obtain ⟨m, hm⟩ : ∃ m, PT.length = m := ⟨_, rfl⟩
        rw [hlen, hm] at hvn
        subst hvn
        have HLn := Lib.hid hlen
        have HMm := Lib.hid hm
        have hmM : m ≤ M + k := by rw [← hm]; exact HI.out.pts
        have HD0 := Lib.hid (show w4.drew.ownsMap Tryz.prog 133 (plainElem Tryz.prog 3) sb sn D from HI.out.nod.stp)
        obtain ⟨w5, hrun, hown, hturn⟩ := HD0.out.store keyedP undStp (by have := HI.out.sns; rw [hm] at this; unfold maxLen; omega) (keyP a x HA.out HXz.out) (plainElem_int Tryz.underlying3 (WalkArith.wf_i64 (n := ((m : Nat) : Int)) (by omega)))
        have HO5 := Lib.hid hown
        have H45 := Lib.hid (show But [sb] w4 w5 from (But.of_below (show Below w4.heap.size w4 w4.drew from (Below.refl _ _).drew) [sb]).trans (but_grown hturn.grown))
        have HRUN := Lib.hid hrun
        have hgs : g ≠ sb := fun e => HI.out.gn (e ▸ HI.out.nod.in1)
        have hst4 : st ≠ sb := fun e => map_ne HI.out.nod.stp HBs.out e.symm
        have hB5 := HI.out.blk.but H45.out (by simpa using hgs)
        have hS5 := HBs.out.but H45.out (by simpa using hst4)
        have HB5 := Lib.hid hB5
        have HS5 := Lib.hid hS5
        have HR5 := Lib.hid (HR.out.but H45.out (fun b hb cur hc => by
          rw [List.mem_singleton] at hb
          subst hb
          exact map_ne HI.out.nod.stp hc rfl))
        have HX5 := Lib.hid (show w5.cell? ⟨g, 2, none⟩ = some (.map (some sb)) ∧ w5.rangeAt st 0 (spC a x).toList ∧ w5.cell? ⟨g, 3, none⟩ = some (.slice AN m cN) from ⟨hB5.cell 2, range_b hS5, hB5.cell 3⟩)
        have HX4 := Lib.hid (show w4.drew.cell? ⟨g, 2, none⟩ = some (.map (some sb)) ∧ w4.drew.rangeAt st 0 (spC a x).toList ∧ w4.drew.cell? ⟨g, 3, none⟩ = some (.slice AN m cN) from ⟨HI.out.blk.cell 2, range_b HBs.out, HI.out.blk.cell 3⟩)
        clear hrun hown hturn hgs hst4 hB5 hS5 hlen hm
        refine wp_region_held_drew (S := fun w' => w'.cell? ⟨g, 2, none⟩ = some (.map (some sb)) ∧ w'.rangeAt st 0 (spC a x).toList ∧ w'.cell? ⟨g, 3, none⟩ = some (.slice AN m cN)) (by kernel_rfl) HX4.out (fun h0 => ?_)
        refine hd_take 0 (some 32) (.pointer (some ⟨g, 0, none⟩)) rfl rfl (by kernel_rfl) (by kernel_rfl) (by kernel_rfl) (fun _ _ _ h => h) (Or.inl ⟨by rfl, fun w hw => by go_simp⟩) h0 ?_
        simp only [Act.put, List.setIfInBounds_toArray, List.set_cons_zero, List.set_cons_succ]
        refine hd_take 1 (some 33) (.pointer (some ⟨g, 0, none⟩)) rfl rfl (by kernel_rfl) (by kernel_rfl) (by kernel_rfl) (fun _ _ _ h => h) (Or.inl ⟨by rfl, fun w hw => by go_simp⟩) h0 ?_
        simp only [Act.put, List.setIfInBounds_toArray, List.set_cons_zero, List.set_cons_succ]
        refine hd_take 2 (some 34) (.pointer (some ⟨g, 2, none⟩)) rfl rfl (by kernel_rfl) (by kernel_rfl) (by kernel_rfl) (fun _ _ _ h => h) (Or.inl ⟨by rfl, fun w hw => by go_simp⟩) h0 ?_
        simp only [Act.put, List.setIfInBounds_toArray, List.set_cons_zero, List.set_cons_succ]
        refine hd_take 3 (some 35) (.map (some sb)) rfl rfl (by kernel_rfl) (by kernel_rfl) (by kernel_rfl) (fun _ _ _ h => h) (Or.inl ⟨by rfl, fun w hw => by have h9 := hw.1; go_simp⟩) h0 ?_
        simp only [Act.put, List.setIfInBounds_toArray, List.set_cons_zero, List.set_cons_succ]
        refine hd_take 4 (some 36) (.agg (spC a x)) rfl rfl (by kernel_rfl) (by kernel_rfl) (by kernel_rfl) (fun _ _ _ h => h) (yieldsIf_load_mid (by rfl) _ _ rfl st 0 rfl (spC a x).toList _ (fun _ h => h.2.1) undP rfl (infP' a x)) h0 ?_
        simp only [Act.put, List.setIfInBounds_toArray, List.set_cons_zero, List.set_cons_succ]
        refine hd_take 5 (some 37) (.pointer (some ⟨g, 0, none⟩)) rfl rfl (by kernel_rfl) (by kernel_rfl) (by kernel_rfl) (fun _ _ _ h => h) (Or.inl ⟨by rfl, fun w hw => by go_simp⟩) h0 ?_
        simp only [Act.put, List.setIfInBounds_toArray, List.set_cons_zero, List.set_cons_succ]
        refine hd_take 6 (some 38) (.pointer (some ⟨g, 0, none⟩)) rfl rfl (by kernel_rfl) (by kernel_rfl) (by kernel_rfl) (fun _ _ _ h => h) (Or.inl ⟨by rfl, fun w hw => by go_simp⟩) h0 ?_
        simp only [Act.put, List.setIfInBounds_toArray, List.set_cons_zero, List.set_cons_succ]
        refine hd_take 7 (some 39) (.pointer (some ⟨g, 3, none⟩)) rfl rfl (by kernel_rfl) (by kernel_rfl) (by kernel_rfl) (fun _ _ _ h => h) (Or.inl ⟨by rfl, fun w hw => by go_simp⟩) h0 ?_
        simp only [Act.put, List.setIfInBounds_toArray, List.set_cons_zero, List.set_cons_succ]
        refine hd_take 8 (some 40) (.slice AN m cN) rfl rfl (by kernel_rfl) (by kernel_rfl) (by kernel_rfl) (fun _ _ _ h => h) (Or.inl ⟨by rfl, fun w hw => by have h9 := hw.2.2; go_simp⟩) h0 ?_
        simp only [Act.put, List.setIfInBounds_toArray, List.set_cons_zero, List.set_cons_succ]
        refine hd_take 9 (some 41) (.int .i64 (m : Nat)) rfl rfl (by kernel_rfl) (by kernel_rfl) (by kernel_rfl) (fun _ _ _ h => h) (Or.inl ⟨by rfl, fun w hw => by go_simp⟩) h0 ?_
        simp only [Act.put, List.setIfInBounds_toArray, List.set_cons_zero, List.set_cons_succ]
        refine wpAnyH_ready (rs := [10]) (by kernel_rfl) (by simp) (AllReadyH.cons rfl (fun K hK => ?_) AllReadyH.nil)
        have hrun := HRUN.out
        go_simp
        refine hK.out _ _ HX5.out (fun h5 => ?_)
        clear hK K hrun HRUN HX4 HX5 h5
        refine wpAnyH_done (by kernel_rfl) ?_ _
        have c3 : w5.cell? ⟨g, 3, none⟩ = some (.slice AN m cN) := HB5.out.cell 3
        have hO5 : OwnE w5 elN 0 (.slice AN m cN) N := HI.out.nod.nod.but H45.out (fun b hb hm => by
          rw [List.mem_singleton] at hm
          obtain ⟨cur, hc⟩ := HI.out.nod.nod.typ b hb
          exact map_ne HI.out.nod.stp hc hm.symm)
        have hO := hO5.alloc (.cells #[.slice none 0 0, .slice none 0 0] 128)
        have hsr : SrcE (w5.alloc (.cells #[.slice none 0 0, .slice none 0 0] 128)) elN (some ⟨w5.heap.size, 0, none⟩) [(Sv.zero, Sv.zero)] := SrcE.one _ (Blk.new _ _ _) rfl
        have hbz : N.length + [(Sv.zero, Sv.zero)].length ≤ 4294967296 := by rw [List.length_singleton, HLn.out, HMm.out]; omega
        have hwA : But [] w5 (w5.alloc (.cells #[.slice none 0 0, .slice none 0 0] 128)) := (But.refl [] w5).alloc _
        have HWA := Lib.hid hwA
        have hzA : (w5.alloc (.cells #[.slice none 0 0, .slice none 0 0] 128)).heap.size = w5.heap.size + 1 := alloc_size _ _
        have HZA := Lib.hid hzA
        clear hO5 hwA hzA
        go_wp2_with (refine wpList_appE fineN rfl (.tmp 46) (.tmp 48) rfl 0 (.slice AN m cN) N rfl hO (some ⟨w5.heap.size, 0, none⟩) 1 1 [(Sv.zero, Sv.zero)] rfl rfl (by simp) hsr hbz (by decide) (Nat.zero_le _) ?_)
        intro v6 w6 ho6 hg6 hf6
        have h56 : But (Value.slice AN m cN).ownBlock.toList w5 w6 := (HWA.out.none _).trans (but_grown hg6.out)
        have hgv : g ∉ (Value.slice AN m cN).ownBlock.toList := fun hm => by
          rw [Option.mem_toList] at hm
          exact HI.out.gn (HI.out.nod.in2 g hm)
        have hB6 := HB5.out.but h56 hgv
        have hty : ∀ b ∈ (Value.slice AN m cN).ownBlock.toList, ∃ cur, Blk w5 b 128 cur := fun b hb => by
          rw [Option.mem_toList] at hb
          obtain ⟨cur, hc⟩ := HI.out.nod.nod.typ b hb
          exact ⟨cur, hc.but H45.out (fun hm => by
            rw [List.mem_singleton] at hm
            exact map_ne HI.out.nod.stp hc hm.symm)⟩
        have hS6 := HS5.out.but h56 (fun hm => by
          obtain ⟨cur, hc⟩ := hty st hm
          exact absurd rfl (HS5.out.ne_ hc (by decide)))
        have hR6 := HR5.out.but h56 (fun b hb cur hc => by
          obtain ⟨cur', hc'⟩ := hty b hb
          exact absurd rfl (hc'.ne_ hc (by decide)))
        have hgs := hS6.ne_ hB6 (by decide)
        have h67 : ∀ u, But [g] w6 (w6.setCell ⟨g, 3, none⟩ u) := fun u => (But.refl [g] w6).set_ (p := ⟨g, 3, none⟩) (.inl (by simp)) u
        obtain ⟨A6, c6, hv6, _, _, _⟩ := ho6.out.src fineN
        obtain ⟨m6, hm6⟩ : ∃ m6, (N ++ [(Sv.zero, Sv.zero)]).length = m6 := ⟨_, rfl⟩
        rw [hm6] at hv6
        subst hv6
        obtain ⟨S7, hI7⟩ := HI.out.step HTk.out HM.out HA.out HXz.out (by rw [HMm.out]; exact HO5.out) H45.out h56 ho6.out (by
          rcases hf6.out with e | e
          · exact .inl e
          · exact .inr ⟨_, e, Nat.le_succ _⟩)
        have hR7 := hR6.but (h67 (.slice A6 m6 c6)) (fun b hb cur hc => by
          rw [List.mem_singleton] at hb
          subst hb
          exact absurd rfl (hB6.ne_ hc (by decide)))
        have hS7 := hS6.but (h67 (.slice A6 m6 c6)) (by simpa using hgs)
        have HIx := Lib.hid hI7
        have HRx := Lib.hid hR7
        have HBx := Lib.hid hS7
        have c6' : w6.cell? ⟨g, 3, none⟩ = some (.slice AN m cN) := hB6.cell 3
        have f6' := hB6.frozen 3
        clear ho6 hg6 hf6 h56 hgv hty hS6 hR6 hgs h67 hI7 hR7 hS7 hO hsr c3 hm6 hbz
        go_wp2_with fail
        clear c6' f6' hB6
        obtain ⟨D7, hD7⟩ : ∃ D7, D.put (kS a x) (.lit (.int .i64 (PT.length : Nat))) = D7 := ⟨_, rfl⟩
        rw [hD7] at HIx
        obtain ⟨w7, hw7⟩ : ∃ w7, w6.setCell ⟨g, 3, none⟩ (.slice A6 m6 c6) = w7 := ⟨_, rfl⟩
        rw [hw7] at HIx HRx HBx ⊢
        have HLK7 := Lib.hid (fun (w' : World) (h : w'.ownsMap Tryz.prog 133 (plainElem Tryz.prog 3) sb (sn + 1) D7) => (step_is h HIx.out.nod.ste HA.out HXz.out (snoc_at HI.out.at_) (j := m) (by rw [← HMm.out]; exact snoc_last _ _)).2)
        have HSS7 := Lib.hid (fun (w' : World) (hI : RchI w g S2 L vr tb sb ls M (k + 1) PT.length w' S7 (sn + 1) D7 (.slice A6 m6 c6) (N ++ [(Sv.zero, Sv.zero)]) (PT ++ [ls.take k ++ [x]])) (hs : Blk w' st 133 (spC a x)) => show w'.cell? ⟨g, 2, none⟩ = some (.map (some sb)) ∧ w'.rangeAt st 0 (spC a x).toList ∧ w'.ownsMap Tryz.prog 133 (plainElem Tryz.prog 3) sb (sn + 1) D7 from ⟨hI.cells.1, range_b hs, hI.nod.stp⟩)
        clear HI HR HB5 HS5 HR5 H45 HO5 HWA HZA HLK HSS HD0
        refine wp_region_held_drew (S := fun w' => w'.cell? ⟨g, 2, none⟩ = some (.map (some sb)) ∧ w'.rangeAt st 0 (spC a x).toList ∧ w'.ownsMap Tryz.prog 133 (plainElem Tryz.prog 3) sb (sn + 1) D7) (by kernel_rfl) (HSS7.out _ (HIx.out.below (show Below w7.heap.size w7 w7.drew from (Below.refl _ _).drew)) (HBx.out.below (show Below w7.heap.size w7 w7.drew from (Below.refl _ _).drew) HBx.out.lt)) (fun h0 => ?_)
        refine hd_take 0 (some 52) (.pointer (some ⟨g, 0, none⟩)) rfl rfl (by kernel_rfl) (by kernel_rfl) (by kernel_rfl) (fun _ _ _ h => h) (Or.inl ⟨by rfl, fun w hw => by go_simp⟩) h0 ?_
        simp only [Act.put, List.setIfInBounds_toArray, List.set_cons_zero, List.set_cons_succ]
        refine hd_take 1 (some 53) (.pointer (some ⟨g, 0, none⟩)) rfl rfl (by kernel_rfl) (by kernel_rfl) (by kernel_rfl) (fun _ _ _ h => h) (Or.inl ⟨by rfl, fun w hw => by go_simp⟩) h0 ?_
        simp only [Act.put, List.setIfInBounds_toArray, List.set_cons_zero, List.set_cons_succ]
        refine hd_take 2 (some 54) (.pointer (some ⟨g, 2, none⟩)) rfl rfl (by kernel_rfl) (by kernel_rfl) (by kernel_rfl) (fun _ _ _ h => h) (Or.inl ⟨by rfl, fun w hw => by go_simp⟩) h0 ?_
        simp only [Act.put, List.setIfInBounds_toArray, List.set_cons_zero, List.set_cons_succ]
        refine hd_take 3 (some 55) (.map (some sb)) rfl rfl (by kernel_rfl) (by kernel_rfl) (by kernel_rfl) (fun _ _ _ h => h) (Or.inl ⟨by rfl, fun w hw => by have h9 := hw.1; go_simp⟩) h0 ?_
        simp only [Act.put, List.setIfInBounds_toArray, List.set_cons_zero, List.set_cons_succ]
        refine hd_take 4 (some 56) (.agg (spC a x)) rfl rfl (by kernel_rfl) (by kernel_rfl) (by kernel_rfl) (fun _ _ _ h => h) (yieldsIf_load_mid (by rfl) _ _ rfl st 0 rfl (spC a x).toList _ (fun _ h => h.2.1) undP rfl (infP' a x)) h0 ?_
        simp only [Act.put, List.setIfInBounds_toArray, List.set_cons_zero, List.set_cons_succ]
        refine hd_take 5 (some 57) (.int .i64 (m : Nat)) rfl rfl (by kernel_rfl) (by kernel_rfl) (by kernel_rfl) (fun _ _ _ h => h) (Or.inl ⟨by rfl, fun w hw => by have h9 := HLK7.out w hw.2.2; go_simp⟩) h0 ?_
        simp only [Act.put, List.setIfInBounds_toArray, List.set_cons_zero, List.set_cons_succ]
        refine hd_take 6 (some 5) (.int .i64 (m : Nat)) rfl rfl (by kernel_rfl) (by kernel_rfl) (by kernel_rfl) (fun _ _ _ h => h) (Or.inl ⟨by rfl, fun w hw => by go_simp⟩) h0 ?_
        simp only [Act.put, List.setIfInBounds_toArray, List.set_cons_zero, List.set_cons_succ]
        refine wpAnyH_done (by kernel_rfl) ?_ _
        have HI := Lib.hid (HIx.out.below (show Below w7.heap.size w7 w7.drew from (Below.refl _ _).drew))
        have HR := Lib.hid (HRx.out.below (show Below w7.heap.size w7 w7.drew from (Below.refl _ _).drew))
        go_wp2_with fail
        go_roundw
        case rel => exact ⟨k + 1, m, _, rfl, by omega, rfl, by go_num, Lib.hid ⟨_, _, _, _, _, _, by rw [← HMm.out]; exact HI.out⟩, HR⟩
        case measure => simp [intOf]; omega
    · obtain rfl : k = n := by omega
      go_wp2_with fail
      go_ret
      exact ⟨a, rfl, HP.out⟩
end Go.Proofs.YtlpondbcnfaggaaGreatDoor.Tr
