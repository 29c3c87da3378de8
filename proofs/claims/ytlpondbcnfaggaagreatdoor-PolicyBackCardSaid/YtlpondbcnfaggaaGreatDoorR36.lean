/-
  Contract of slices.Backward at rows of rows, over this seat's translation: what it answers gives the rows, the last one first, to every loop body that keeps what lay there but for one block; and a region that draws its order, inside a round of such a loop, by the laws for regions elsewhere. No condition.
-/
import Derived.RangeFuncBox
import Derived.RangeFuncLeaves
import Derived.RangeFuncNested
import Derived.RangeFuncBound
import Derived.RangeFuncCalls
import Derived.Shelf.Abstract
import Derived.Shelf.RegionOpen
import Derived.WalkKit
import Derived.OwnWalkIn
import Derived.TacticsInMore
import Derived.LoopNIn
import Derived.LoopIn
import Derived.Deep.RegionHeldLaw
import Derived.Test.YtlpondbcnfaggaaGreatDoorR13
import Derived.Test.YtlpondbcnfaggaaGreatDoorR35
namespace Go.Proofs.YtlpondbcnfaggaaGreatDoor.Tr
open Go.RowKit Go.Shelf Go.Proofs.YtlpondbcnfaggaaGreatDoor.Wd Go.Proofs.YtlpondbcnfaggaaGreatDoor.Te

/-! a region inside a round -/
section
variable {l n : Nat} {P : Program} {ops : Array Oper} {Q : Exit → Act → World → Prop} {md : Region.Mode} {S : World → Prop}
theorem oper_in {o : Oper} {a : Act} {w : World} {K K' : Act → World → Prop} (hd : ∀ c, o.op ≠ .defer c) (hK : ∀ a w, K a w → K' a w) (h : o.wp P a w K Q) : o.wpIn (Fence.wide.inRound l) n P a w K' Q := by
  refine ⟨fun _ _ => trivial, ?_⟩
  rw [Oper.semAt_eq _ _ _ hd]
  have h := Oper.wp_mono hK h
  unfold Oper.wp at h
  generalize (execOp a.eval o).run P w = r at *
  cases r with
  | ok x w' =>
    cases x with
    | enter f args => exact ⟨(fun h => by cases h), CallsIn.inRound l (callsIn_wide.2 h)⟩
    | row row args => exact ⟨(fun h => by cases h), fun c cs _ => by
        obtain ⟨v, w', r, s⟩ := h c cs
        exact ⟨v, w', r, stepsIn_wide.2 s⟩⟩
    | round _ _ _ _ _ => exact False.elim h
    | _ => exact h
  | halt x w' => cases x <;> exact h
theorem any_in (hd : ∀ (i : Nat) (o : Oper), ops[i]? = some o → ∀ c, o.op ≠ .defer c) (hQ : ¬ LetsOut Q) : ∀ (fuel : Nat) (listed : Array Bool) (a : Act) (w : World), wpAny P md ops Q fuel listed a w → wpAnyIn (Fence.wide.inRound l) n P md ops Q fuel listed a w
  | 0, _, _, _, h => h
  | fuel + 1, listed, a, w, h => ⟨h.1, fun i hi => by
      have h2 := h.2 i hi
      unfold wpOp at h2
      unfold wpOpIn
      cases ho : ops[i]? with
      | none =>
        rw [ho] at h2
        exact any_in hd hQ fuel _ a w h2
      | some o =>
        rw [ho] at h2
        dsimp only at h2 ⊢
        split
        · rename_i hw
          rw [if_pos hw] at h2
          rcases h2 with h2 | h2
          · exact oper_in (hd i o ho) (fun a w h => any_in hd hQ fuel _ a w h) h2
          · exact absurd h2.2 hQ
        · rename_i hw
          rw [if_neg hw] at h2
          exact ⟨fun _ _ => trivial, any_in hd hQ fuel _ _ w h2⟩⟩
theorem region_in {id : Nat} {a : Act} {w : World} (hm : P.follows .mixedOrders = true) (hd : ∀ (i : Nat) (o : Oper), ops[i]? = some o → ∀ c, o.op ≠ .defer c) (hQ : ¬ LetsOut Q) (hS : S w.drew)
    (h : S w.drew → wpAnyH P .any ops Q S ops.size (Array.replicate ops.size false) a w.drew) : (Code.region id ops true).wpIn (Fence.wide.inRound l) n P Q a w :=
  wpIn_region_any hm (any_in hd hQ _ _ _ _ (wpAny_of_held _ _ _ _ (h hS)))
end

/-! what a round keeps: all that lay there, but for one block -/
structure KpB (B b : Nat) (W W' : World) : Prop where
  size : W.heap.size ≤ W'.heap.size
  block : ∀ i, i < B → i ≠ b → W'.heap[i]? = W.heap[i]?
theorem KpB.refl (B b : Nat) (W : World) : KpB B b W W := ⟨Nat.le_refl _, fun _ _ _ => rfl⟩
theorem KpB.trans {B b : Nat} {X Y Z : World} (h : KpB B b X Y) (k : KpB B b Y Z) : KpB B b X Z := ⟨Nat.le_trans h.size k.size, fun i hi hn => (k.block i hi hn).trans (h.block i hi hn)⟩
theorem KpB.cell {B b : Nat} {W W' : World} (h : KpB B b W W') {p : Addr} (hp : p.block < B) (hn : p.block ≠ b) : W'.cell? p = W.cell? p := World.cell?_of_block (h.block p.block hp hn)
theorem KpB.below {B b : Nat} {W W' : World} (h : Below B W W') : KpB B b W W' := ⟨h.size, fun i hi _ => h.block i hi⟩
theorem KpB.set_ {B b : Nat} (W : World) (i : Nat) (u : Value) : KpB B b W (W.setCell ⟨b, i, none⟩ u) := ⟨by simp [World.setCell], fun j _ hn => Below.heap_setCell W ⟨b, i, none⟩ u j hn⟩
theorem KpB.put {B b : Nat} (W : World) (l : Nat) (o' : Obj) (hl : B ≤ l) : KpB B b W (W.putObj l o') := by
  have h := belowK_b (w := W) (n₀ := B)
  refine ⟨by simp [World.putObj], fun i hi _ => ?_⟩
  simp only [World.putObj]
  rw [Array.getElem?_setIfInBounds, if_neg (by omega)]

attribute [local go_sem] Oper.semAt_some

section
variable {α : Type} (ix : α → Nat) (sv : α → Sv)
set_option linter.unusedSimpArgs false in
set_option maxRecDepth 100000 in
set_option maxHeartbeats 4000000 in
theorem tback1_in (F : Fence) (n : Nat) (h55 : F.fn 78) (hro : F.round = none) (hn : 1 ≤ n) (l Bs n₀ bb : Nat) (A : Option Addr) (len cap : Nat) (zs : List α) (hlen : zs.length = len) (hix : ∀ (j : Nat) (x : α), zs[j]? = some x → ix x = j) (hsm : len ≤ 1000000) (J Jx : List α → World → Prop)
    (hY : ∀ pre x W, J pre W → pre.length < len → YieldAt F (n - 1) Tryz.prog l #[.int .i64 (ix x : Int), .slice (sv x).a (sv x).n (sv x).c] W fun e W' =>
      (e = .returned (.bool true) ∧ J (pre ++ [x]) W' ∧ KpB n₀ bb W W') ∨ (e = .returned (.bool false) ∧ Jx (pre ++ [x]) W'))
    (W : World) (hBs : W.cell? ⟨Bs, 0, none⟩ = some (.slice A len cap)) (hb : Bs < n₀ ∧ Bs ≠ bb) (hc : ∀ (j : Nat) (x : α), zs[j]? = some x → ∃ g o, A = some ⟨g, o, none⟩ ∧ (g < n₀ ∧ g ≠ bb) ∧ W.cell? ⟨g, o + j, none⟩ = some (.slice (sv x).a (sv x).n (sv x).c)) (h0 : J [] W) :
    CallsIn F n Tryz.prog 78 #[.func (.yield l) #[] #[], .pointer (some ⟨Bs, 0, none⟩)] W fun e W' => (∃ v, e = .returned v) ∧
      ((∃ ys : List α, ys = zs.reverse ∧ J ys W') ∨ (∃ pre, True ∧ Jx pre W')) := by
  refine callsIn_of_wp Tryz.func78 rfl h55 ?_ hro
  simp only [Tryz.ntmps78, List.size_toArray, List.length_cons, List.length_nil, Nat.reduceAdd, Nat.reduceSub, Array.replicate_succ, Array.replicate_zero, List.push_toArray, List.append_toArray, List.nil_append, List.cons_append]
  have HL := Lib.hid hlen
  have HC := Lib.hid hc
  have HIx := Lib.hid hix
  clear hc hlen hix
  gi_wp2
  gi_loopw [3] (fun i wr => ∃ (r : Nat) (pre : List α), r ≤ len ∧ i = .int .i64 ((r : Int) - 1) ∧ Hid (pre.length + r = len ∧ pre = zs.reverse.take pre.length) ∧ J pre wr ∧ Hid (KpB n₀ bb W wr))
    (fun i _ => (intOf i + 1).toNat)
  case atStart => exact ⟨len, [], Nat.le_refl _, rfl, Lib.hid ⟨by simp, by simp⟩, h0, Lib.hid (KpB.refl _ _ _)⟩
  case round =>
    obtain ⟨r, pre, hr, rfl, HP, hJ, HB⟩ := hrel
    have hcb : wr.cell? ⟨Bs, 0, none⟩ = some (.slice A len cap) := (HB.out.cell (p := ⟨Bs, 0, none⟩) hb.1 hb.2).trans hBs
    cases r with
    | zero =>
      have HD := Lib.hid (show pre = zs.reverse by
        have h1 := HP.out.1
        rw [HP.out.2]
        apply List.take_of_length_le
        rw [List.length_reverse, HL.out]
        omega)
      gi_wp2
      go_end0
      exact ⟨⟨_, rfl⟩, .inl ⟨pre, HD.out, hJ⟩⟩
    | succ m =>
      have hm1 : ((m + 1 : Nat) : Int) - 1 = (m : Int) := by omega
      have hm0 : (0 : Int) ≤ (m : Int) := by omega
      have hml : (m : Int) < (len : Int) := by omega
      rw [hm1]
      obtain ⟨x, hx⟩ : ∃ x, zs[m]? = some x := ⟨_, List.getElem?_eq_getElem (by rw [HL.out]; omega)⟩
      obtain ⟨g, o, rfl, hg, hcs⟩ := HC.out m x hx
      have hcx : wr.cell? ⟨g, o + m, none⟩ = some (.slice (sv x).a (sv x).n (sv x).c) := (HB.out.cell (p := ⟨g, o + m, none⟩) hg.1 hg.2).trans hcs
      have HP2 := Lib.hid (show (pre ++ [x]).length + m = len ∧ (pre ++ [x]) = zs.reverse.take (pre ++ [x]).length from by
        obtain ⟨h1, h2⟩ := HP.out
        have hlz := HL.out
        refine ⟨by rw [List.length_append, List.length_singleton]; omega, ?_⟩
        rw [List.length_append, List.length_singleton, List.take_add_one, ← h2]
        congr 1
        rw [List.getElem?_reverse (by omega), show zs.length - 1 - pre.length = m by omega, hx]
        rfl)
      have hYx := hY pre x wr hJ (by have := HP.out.1; omega)
      rw [HIx.out m x hx] at hYx
      obtain ⟨fn, tmps, assign, body, hy, hR⟩ := hYx
      clear hcs hx hm1 HP hr
      gi_wp2
      refine hR.mono ?_
      rintro e W3 (⟨rfl, hJ3, hk3⟩ | ⟨rfl, hJx3⟩)
      · have HB3 := Lib.hid (HB.out.trans hk3)
        clear hk3
        gi_wp2
        go_roundw
        case rel => exact ⟨m, pre ++ [x], by omega, rfl, HP2, hJ3, HB3⟩
        case measure => simp [intOf]
      · gi_wp2
        refine bodyPost_ret (results_none rfl _ _ _) rfl ?_
        exact ⟨⟨_, rfl⟩, .inr ⟨_, trivial, hJx3⟩⟩
/-- what Backward answers gives the rows, the last one first -/
theorem tback_stops (F : Fence) (n : Nat) (h55 : F.fn 78) (hro : F.round = none) (hn : 1 ≤ n) (Bs n₀ bb : Nat) (A : Option Addr) (len cap : Nat) (zs : List α) (hlen : zs.length = len) (hix : ∀ (j : Nat) (x : α), zs[j]? = some x → ix x = j) (hsm : len ≤ 1000000) (w : World) (hBs : Bs < n₀ ∧ Bs ≠ bb) (hn₀ : n₀ ≤ w.heap.size)
    (hcb : w.cell? ⟨Bs, 0, none⟩ = some (.slice A len cap)) (hc : ∀ (j : Nat) (x : α), zs[j]? = some x → ∃ g o, A = some ⟨g, o, none⟩ ∧ (g < n₀ ∧ g ≠ bb) ∧ w.cell? ⟨g, o + j, none⟩ = some (.slice (sv x).a (sv x).n (sv x).c)) :
    SeqStopsK F n Tryz.prog 78 #[.pointer (some ⟨Bs, 0, none⟩)] (fun x : α => #[Value.int .i64 (ix x : Int), Value.slice (sv x).a (sv x).n (sv x).c]) (KpB n₀ bb) (fun ys => ys = zs.reverse) (fun _ => True) len w := fun l J Jx W hW _ _ hY h0 => by
  have hW' := hW.mono hn₀
  exact tback1_in ix sv F n h55 hro hn l Bs n₀ bb A len cap zs hlen hix hsm J Jx hY W ((hW'.cell (p := ⟨Bs, 0, none⟩) hBs.1).trans hcb) hBs (fun j x h => by
    obtain ⟨g, o, hA, hg, hx⟩ := hc j x h
    exact ⟨g, o, hA, hg, (hW'.cell (p := ⟨g, o + j, none⟩) hg.1).trans hx⟩) h0
end
set_option maxHeartbeats 1000000 in
theorem tback_in (F : Fence) (n : Nat) (h33 : F.fn 43) (hro : F.round = none) (a : Option Addr) (len cap : Nat) (w : World) :
    CallsIn F n Tryz.prog 43 #[.slice a len cap] w fun e w' => e = .returned (.func (.func 78) #[] #[.pointer (some ⟨w.heap.size, 0, none⟩)]) ∧ w' = w.alloc (.cells #[.slice a len cap] 81) := by
  refine callsIn_of_wp Tryz.func43 rfl h33 ?_ hro
  simp only [Tryz.ntmps43, List.size_toArray, List.length_cons, List.length_nil, Nat.reduceAdd, Nat.reduceSub, Array.replicate_succ, Array.replicate_zero, List.push_toArray, List.append_toArray, List.nil_append, List.cons_append]
  gi_wp2
  go_ret
  exact ⟨rfl, rfl⟩
/-- a whole store in a drawn region; a region that ends as it should -/
theorem ready_st {P : Program} {ops : Array Oper} {Q : Exit → Act → World → Prop} {md : Region.Mode} {S : World → Prop} {fuel : Nat} {listed : Array Bool} {a : Act} {w : World} {i : Nat} {o : Oper} {rs : List Nat} {ty t : TypeId} {x y : Operand} {g n : Nat} {C D : Array Value} (ho : ops[i]? = some o) (hg : o.guard = none) (hop : o.op = .store ty x y)
    (hx : a.eval x = .pointer (some ⟨g, 0, none⟩)) (hy : a.eval y = .agg D) (hb : Blk w g t C) (hi : (P.info? ty).map (·.size) = some n) (hC : C.size = n) (hD : D.size = n) (h1 : D.all (·.oneCell') = true) (hS : S (w.setRow g D))
    (h : S (w.setRow g D) → wpAnyH P md ops Q S fuel (listed.setIfInBounds i true) (a.put o.dst undef) (w.setRow g D)) (hs : AllReadyH P md ops Q S fuel listed a w rs) : AllReadyH P md ops Q S fuel listed a w (i :: rs) :=
  AllReadyH.cons ho (fun K hK => by
    rw [if_pos (by simp [Region.wanted, hg])]
    exact wp_store_row ty x y hop g D hx hy t C hb (by rw [hi, hD]) (by rw [hC, hD]) h1 (hK.out _ _ hS h)) hs
theorem wp_norm {P : Program} {c : Code} {Q : Exit → Act → World → Prop} {a : Act} {w : World} (h : c.wp P (fun e a w => e = .normal ∧ Q e a w) a w) : c.wp P Q a w := Code.wp_mono (fun _ _ _ h => h.2) h
end Go.Proofs.YtlpondbcnfaggaaGreatDoor.Tr

/-
  Contract of package trie's Add over this seat's translation: it answers what addE says, and the trie's rules are as addS says. Condition: texts of up to a million bytes.
-/
namespace Go.Proofs.YtlpondbcnfaggaaGreatDoor.Tr
open Go.RowKit Go.Shelf Go.Proofs.YtlpondbcnfaggaaGreatDoor.Wd Go.Proofs.YtlpondbcnfaggaaGreatDoor.Asc Go.Proofs.YtlpondbcnfaggaaGreatDoor.Tx Go.Proofs.YtlpondbcnfaggaaGreatDoor.St Go.Proofs.YtlpondbcnfaggaaGreatDoor.Te Go.Maps

/-- what a call of Add leaves -/
def AddP (w : World) (g : Nat) (S : List Nat) (L : List Ru) (r : Ru) (e : Ending) (w' : World) : Prop := ∃ S', e = .returned (.int .i64 (addE L r)) ∧ TriP w' g S' (addS L r) ∧ (∀ i ∈ S', i ∈ S ∨ w.heap.size ≤ i) ∧ But (g :: S) w w'
set_option linter.unusedSimpArgs false in
set_option maxRecDepth 100000 in
set_option maxHeartbeats 64000000 in
theorem tadd_any {B : Nat} {w : World} {g : Nat} {S : List Nat} {L : List Ru} (hE : Ad.Env B w) (hT : TriP w g S L) (hge : ∀ i ∈ g :: S, B ≤ i) (r : Ru) (h1 : r.pa.length ≤ 1000000) (h2 : r.ap.length ≤ 1000000) :
    Calls Tryz.prog 21 #[.pointer (some ⟨g, 0, none⟩), .agg (ruC r)] w (AddP w g S L r) := by
  have hT0 := hT
  obtain ⟨S1, S2, vr, tb, tn, T, sb, sn, D, vn, N, PT, hS, hI⟩ := hT
  have HS := Lib.hid hS
  have HGl := Lib.hid (show ∀ i ∈ g :: (S1 ++ S2), i < w.heap.size from fun i hi => by
    rcases List.mem_cons.1 hi with rfl | hi
    · exact hI.blk.lt
    · rcases List.mem_append.1 hi with hi | hi
      · exact hI.lt1 i hi
      · exact hI.lt2 i hi)
  have HT0 := Lib.hid hT0
  have HE := Lib.hid hE
  obtain ⟨AR, cR, hvr, _, _⟩ := hI.rul.src
  obtain ⟨n, hn⟩ : ∃ n, L.length = n := ⟨_, rfl⟩
  rw [hn] at hvr
  have HN := Lib.hid hn
  have hmost : n ≤ 200 := by rw [← hn]; exact hI.most
  have HVr := Lib.hid hvr
  obtain ⟨e0, he0⟩ : ∃ e0, rightS r = e0 := ⟨_, rfl⟩
  have HR := Lib.hid (fun w' hb => tright_any (B := B) r w' (hE.on hb) h1 h2)
  rw [he0] at HR
  have HA : Hid (addE L r = if e0 ≠ 0 then e0 else if 200 ≤ n then 2 else if L.any (twinB r) then 7 else 0) := Lib.hid (by unfold addE; rw [he0, hn])
  have HAS : Hid (addS L r = if addE L r = 0 then L ++ [r] else L) := Lib.hid rfl
  -- a call that ends with an error
  have HBad := Lib.hid (fun (w' : World) (e : Int) (hb : Below w.heap.size w w') (he : addE L r = e) (hne : e ≠ 0) => show AddP w g S L r (.returned (.int .i64 e)) w' from
    ⟨S, by rw [he], by rw [show addS L r = L from if_neg (by rw [he]; exact hne)]; exact HT0.out.but (But.of_below hb []) (fun _ _ h => by cases h), fun i hi => .inl hi, But.of_below hb _⟩)
  have HL := Lib.hid (show r.pa.length ≤ 2147483640 ∧ r.ap.length ≤ 2147483640 from ⟨by omega, by omega⟩)
  have hb0 := Blk.new w 23 (ruC r)
  have hl0 : Below w.heap.size w (w.alloc (.cells (ruC r) 23)) := (Below.refl _ _).alloc (Nat.le_refl _) _
  have HI1 : Hid (AdI w w.heap.size g S1 S2 L vr tb tn T sb sn D vn N PT r (w.alloc (.cells (ruC r) 23))) := Lib.hid ⟨hI.below hl0, hb0, hl0, Nat.le_refl _, HGl.out⟩
  have HRi := Lib.hid he0
  clear hE hT0 hI hvr hge hn he0 h1 h2 hS hb0 hl0
  go_enter Tryz.func21, Tryz.ntmps21
  go_upto_region 1 with fail
  generalize w.alloc (.cells (ruC r) 23) = w1 at *
  obtain ⟨G, hG⟩ : ∃ G, w.heap.size = G := ⟨_, rfl⟩
  have HG := Lib.hid hG
  rw [hG] at HI1 ⊢
  clear hG
  have b1 := HI1.out.box
  go_wp2_with (refine go_ld (x := .tmp 3) 23 b1 undU rfl infU (ruC_size _) rfl rfl rfl ?_)
  refine (HR.out _ HI1.out.bel).mono ?_
  rintro e w2 ⟨rfl, hb2⟩
  have HI2 := Lib.hid (HI1.out.on hb2)
  clear hb2 b1 HI1 HR
  have hA := HA.out
  rcases Decidable.em (e0 ≠ 0) with he | hn
  · have q0 : (e0 != 0) = true := by rw [bne_iff_ne]; exact he
    rw [if_pos he] at hA
    have HA2 := Lib.hid hA
    have He := Lib.hid he
    clear hA he HA
    go_wp2_with fail
    go_ret
    exact HBad.out _ _ HI2.out.bel HA2.out He.out
  have he : e0 = 0 := Decidable.not_not.1 hn
  subst he
  rw [if_neg hn] at hA
  clear hn HA
  have hc2 : w2.cell? ⟨g, 0, none⟩ = some (.slice AR n cR) := by rw [← HVr.out]; exact HI2.out.tri.blk.cell 0
  by_cases hm : 200 ≤ n
  · obtain rfl : n = 200 := by omega
    rw [if_pos hm] at hA
    have HA2 := Lib.hid hA
    clear hA hm
    go_wp2_with fail
    go_ret
    exact HBad.out _ _ HI2.out.bel HA2.out (by decide)
  rw [if_neg hm] at hA
  have HA := Lib.hid hA
  have hn2 : ¬ (n : Int) = 200 := by omega
  have Hn2 := Lib.hid (show n < 200 by omega)
  clear hA hm
  go_upto_region 6 with fail
  have HRk := Lib.hid (show OkU r ∧ rightS r = 0 from ⟨(right_ok HRi.out).1, HRi.out⟩)
  obtain ⟨bb, hbb⟩ : ∃ bb, Maps.has T (kU { r with al := false }) = bb := ⟨_, rfl⟩
  have HBb := Lib.hid (show (bb = true ↔ L.any (twinB r) = true) from by rw [any_bare, ← HI2.out.tri.tha _ (ok_bare HRk.out.1), hbb])
  have HLk := Lib.hid (fun (w' : World) (h : w'.ownsMap Tryz.prog 23 (unitElem (H := Unit)) tb tn T) => thr_look h (ok_bare HRk.out.1) hbb)
  have HSS := Lib.hid (fun (w' : World) (h : AdI w G g S1 S2 L vr tb tn T sb sn D vn N PT r w') => show w'.rangeAt G 0 (ruC r).toList ∧ w'.cell? ⟨g, 1, none⟩ = some (.map (some tb)) ∧ w'.ownsMap Tryz.prog 23 (unitElem (H := Unit)) tb tn T from ⟨range_b h.box, h.tri.blk.cell 1, h.tri.thr⟩)
  have HBr := Lib.hid (tbare_any r)
  clear hbb hc2 hn2
  refine Code.wp_mono (Q := fun e a' w' => e = .normal ∧ ∃ X, Hid (AdI w G g S1 S2 L vr tb tn T sb sn D vn N PT r w') ∧ a' = { tmps := #[(.pointer (some ⟨g, 0, none⟩)), (.agg (ruC r)), undef, (.pointer (some ⟨G, 0, none⟩)), (.int .i64 0), (.int .i64 0), (.pointer (some ⟨X, 0, none⟩)), (.bool bb), (.agg (ruC r)), (.int .i64 0), (.int .i64 0), (.bool false), undef, (.pointer (some ⟨g, 0, none⟩)), (.pointer (some ⟨g, 0, none⟩)), (.pointer (some ⟨g, 0, none⟩)), (.slice AR n cR), (.int .i64 (n : Nat)), (.bool false), (.tuple #[.agg #[], .bool bb]), (.pointer (some ⟨g, 0, none⟩)), (.pointer (some ⟨g, 0, none⟩)), (.pointer (some ⟨g, 1, none⟩)), (.map (some tb)), (.agg (ruC r)), (.agg (ruC { r with al := false })), (.tuple #[.agg #[], .bool bb]), (.agg #[]), (.bool bb), undef, undef, undef, undef, undef, undef, undef, undef, undef, undef, undef, undef, undef, undef, undef, undef, undef, undef, undef, undef, undef, undef, undef, undef, undef, undef, undef, undef, undef], defers := [] }) (fun e a' w' h => ?_) ?_
  case refine_2 =>
    have HI2 := Lib.hid (HI2.out.on (show Below w2.heap.size w2 w2.drew from (Below.refl _ _).drew))
    refine wp_region_held_drew (S := fun w' => w'.rangeAt G 0 (ruC r).toList ∧ w'.cell? ⟨g, 1, none⟩ = some (.map (some tb)) ∧ w'.ownsMap Tryz.prog 23 (unitElem (H := Unit)) tb tn T) (by kernel_rfl) (HSS.out _ HI2.out) (fun h0 => ?_)
    generalize w2.drew = w3 at *
    refine hd_take 0 (some 20) (.pointer (some ⟨g, 0, none⟩)) rfl rfl (by kernel_rfl) (by kernel_rfl) (by kernel_rfl) (fun _ _ _ h => nomatch h.1) (Or.inl ⟨by rfl, fun w hw => by go_simp⟩) h0 ?_
    simp only [Act.put, List.setIfInBounds_toArray, List.set_cons_zero, List.set_cons_succ]
    refine hd_take 1 (some 21) (.pointer (some ⟨g, 0, none⟩)) rfl rfl (by kernel_rfl) (by kernel_rfl) (by kernel_rfl) (fun _ _ _ h => nomatch h.1) (Or.inl ⟨by rfl, fun w hw => by go_simp⟩) h0 ?_
    simp only [Act.put, List.setIfInBounds_toArray, List.set_cons_zero, List.set_cons_succ]
    refine hd_take 2 (some 22) (.pointer (some ⟨g, 1, none⟩)) rfl rfl (by kernel_rfl) (by kernel_rfl) (by kernel_rfl) (fun _ _ _ h => nomatch h.1) (Or.inl ⟨by rfl, fun w hw => by go_simp⟩) h0 ?_
    simp only [Act.put, List.setIfInBounds_toArray, List.set_cons_zero, List.set_cons_succ]
    refine hd_take 3 (some 23) (.map (some tb)) rfl rfl (by kernel_rfl) (by kernel_rfl) (by kernel_rfl) (fun _ _ _ h => nomatch h.1) (Or.inl ⟨by rfl, fun w hw => by have h9 := hw.2.1; go_simp⟩) h0 ?_
    simp only [Act.put, List.setIfInBounds_toArray, List.set_cons_zero, List.set_cons_succ]
    refine hd_take 4 (some 24) (.agg (ruC r)) rfl rfl (by kernel_rfl) (by kernel_rfl) (by kernel_rfl) (fun _ _ _ h => nomatch h.1) (yieldsIf_load_mid (by rfl) _ _ rfl G 0 rfl (ruC r).toList _ (fun _ h => h.1) undU rfl (ruU_len r)) h0 ?_
    simp only [Act.put, List.setIfInBounds_toArray, List.set_cons_zero, List.set_cons_succ]
    refine wpAnyH_ready (rs := [5, 10]) (by kernel_rfl) (by simp) (AllReadyH.cons rfl (fun K hK => ?_) (AllReadyH.cons rfl (fun K hK => ?_) AllReadyH.nil))
    · skip
      go_simp
      refine (HBr.out _).mono ?_
      rintro e wbHI3 ⟨rfl, hb⟩
      have HI3 := Lib.hid (HI2.out.on hb)
      refine hK.out _ _ (HSS.out _ HI3.out) (fun h3 => ?_)
      clear hK K hb h0
      refine hd_take 6 (some 26) (.tuple #[.agg #[], .bool bb]) rfl rfl (by kernel_rfl) (by kernel_rfl) (by kernel_rfl) (fun _ _ _ h => nomatch h.1) (Or.inl ⟨by rfl, fun w hw => by have h9 := HLk.out w hw.2.2; go_simp⟩) h3 ?_
      simp only [Act.put, List.setIfInBounds_toArray, List.set_cons_zero, List.set_cons_succ]
      refine hd_take 7 (some 19) (.tuple #[.agg #[], .bool bb]) rfl rfl (by kernel_rfl) (by kernel_rfl) (by kernel_rfl) (fun _ _ _ h => nomatch h.1) (Or.inl ⟨by rfl, fun w hw => by go_simp⟩) h3 ?_
      simp only [Act.put, List.setIfInBounds_toArray, List.set_cons_zero, List.set_cons_succ]
      refine hd_take 8 (some 27) (.agg #[]) rfl rfl (by kernel_rfl) (by kernel_rfl) (by kernel_rfl) (fun _ _ _ h => nomatch h.1) (Or.inl ⟨by rfl, fun w hw => by go_simp⟩) h3 ?_
      simp only [Act.put, List.setIfInBounds_toArray, List.set_cons_zero, List.set_cons_succ]
      refine hd_take 9 (some 28) (.bool bb) rfl rfl (by kernel_rfl) (by kernel_rfl) (by kernel_rfl) (fun _ _ _ h => nomatch h.1) (Or.inl ⟨by rfl, fun w hw => by go_simp⟩) h3 ?_
      simp only [Act.put, List.setIfInBounds_toArray, List.set_cons_zero, List.set_cons_succ]
      refine wpAnyH_ready (rs := [10]) (by kernel_rfl) (by simp) (AllReadyH.cons rfl (fun K hK => ?_) AllReadyH.nil)
      go_simp
      have HI4 := Lib.hid (HI3.out.on ((Below.refl _ _).alloc (Nat.le_refl _) (.cells #[] 74)))
      refine hK.out _ _ (HSS.out _ HI4.out) (fun h4 => ?_)
      clear hK K h3
      refine wpAnyH_ready (rs := [11]) (by kernel_rfl) (by simp) (AllReadyH.cons rfl (fun K hK => ?_) AllReadyH.nil)
      go_simp
      refine hK.out _ _ (HSS.out _ HI4.out) (fun h5 => ?_)
      clear hK K h4
      refine hd_take 12 (some 7) (.bool bb) rfl rfl (by kernel_rfl) (by kernel_rfl) (by kernel_rfl) (fun _ _ _ h => nomatch h.1) (Or.inl ⟨by rfl, fun w hw => by go_simp⟩) h5 ?_
      simp only [Act.put, List.setIfInBounds_toArray, List.set_cons_zero, List.set_cons_succ]
      refine wpAnyH_done (by kernel_rfl) ⟨rfl, _, HI4, rfl⟩ _
    · skip
      go_simp
      have HI3 := Lib.hid (HI2.out.on ((Below.refl _ _).alloc (Nat.le_refl _) (.cells #[] 74)))
      refine hK.out _ _ (HSS.out _ HI3.out) (fun h3 => ?_)
      clear hK K h0
      refine wpAnyH_ready (rs := [5]) (by kernel_rfl) (by simp) (AllReadyH.cons rfl (fun K hK => ?_) AllReadyH.nil)
      go_simp
      refine (HBr.out _).mono ?_
      rintro e wbHI4 ⟨rfl, hb⟩
      have HI4 := Lib.hid (HI3.out.on hb)
      refine hK.out _ _ (HSS.out _ HI4.out) (fun h4 => ?_)
      clear hK K hb h3
      refine hd_take 6 (some 26) (.tuple #[.agg #[], .bool bb]) rfl rfl (by kernel_rfl) (by kernel_rfl) (by kernel_rfl) (fun _ _ _ h => nomatch h.1) (Or.inl ⟨by rfl, fun w hw => by have h9 := HLk.out w hw.2.2; go_simp⟩) h4 ?_
      simp only [Act.put, List.setIfInBounds_toArray, List.set_cons_zero, List.set_cons_succ]
      refine hd_take 7 (some 19) (.tuple #[.agg #[], .bool bb]) rfl rfl (by kernel_rfl) (by kernel_rfl) (by kernel_rfl) (fun _ _ _ h => nomatch h.1) (Or.inl ⟨by rfl, fun w hw => by go_simp⟩) h4 ?_
      simp only [Act.put, List.setIfInBounds_toArray, List.set_cons_zero, List.set_cons_succ]
      refine hd_take 8 (some 27) (.agg #[]) rfl rfl (by kernel_rfl) (by kernel_rfl) (by kernel_rfl) (fun _ _ _ h => nomatch h.1) (Or.inl ⟨by rfl, fun w hw => by go_simp⟩) h4 ?_
      simp only [Act.put, List.setIfInBounds_toArray, List.set_cons_zero, List.set_cons_succ]
      refine hd_take 9 (some 28) (.bool bb) rfl rfl (by kernel_rfl) (by kernel_rfl) (by kernel_rfl) (fun _ _ _ h => nomatch h.1) (Or.inl ⟨by rfl, fun w hw => by go_simp⟩) h4 ?_
      simp only [Act.put, List.setIfInBounds_toArray, List.set_cons_zero, List.set_cons_succ]
      refine wpAnyH_ready (rs := [11]) (by kernel_rfl) (by simp) (AllReadyH.cons rfl (fun K hK => ?_) AllReadyH.nil)
      go_simp
      refine hK.out _ _ (HSS.out _ HI4.out) (fun h5 => ?_)
      clear hK K h4
      refine hd_take 12 (some 7) (.bool bb) rfl rfl (by kernel_rfl) (by kernel_rfl) (by kernel_rfl) (fun _ _ _ h => nomatch h.1) (Or.inl ⟨by rfl, fun w hw => by go_simp⟩) h5 ?_
      simp only [Act.put, List.setIfInBounds_toArray, List.set_cons_zero, List.set_cons_succ]
      refine wpAnyH_done (by kernel_rfl) ⟨rfl, _, HI4, rfl⟩ _
  obtain ⟨rfl, X, HI3, rfl⟩ := h
  dsimp only
  have HBr9 := HBr
  clear HSS HBr HLk
  cases bb
  case true =>
    have HA2 := Lib.hid (HA.out.trans (if_pos (HBb.out.1 rfl)))
    clear HA
    go_wp2_with fail
    go_ret
    exact HBad.out _ _ HI3.out.bel HA2.out (by decide)
  have HA2 := Lib.hid (HA.out.trans (if_neg (fun h => by cases HBb.out.2 h)))
  clear HA HBad
  have b3 := HI3.out.box
  have HFr := Lib.hid (fun w' => tfresh_any r w' HL.out.1 HL.out.2)
  go_wp2_with (refine go_ld (x := .tmp 3) 23 b3 undU rfl infU (ruC_size _) rfl rfl rfl ?_)
  refine (HFr.out _).mono ?_
  rintro e w4 ⟨rfl, hb4⟩
  have HI4 := Lib.hid (HI3.out.on hb4)
  clear hb4 b3 HI3 HFr HI2
  go_upto_region 10 with (refine go_st 23 HI4.out.box infU (ruC_size _) (ruC_size _) (ruC_one _) rfl rfl rfl rfl ?_)
  have hI5 := HI4.out.row r
  obtain ⟨w5, hw5⟩ : ∃ w5, w4.setRow G (ruC r) = w5 := ⟨_, rfl⟩
  rw [hw5] at hI5 ⊢
  have HI5 := Lib.hid (hI5.on (show Below w5.heap.size w5 w5.drew from (Below.refl _ _).drew))
  have HPl := Lib.hid (fun (w' : World) (h : AdI w G g S1 S2 L vr tb tn T sb sn D vn N PT r w') => show Calls Tryz.prog 42 #[.pointer (some ⟨g, 0, none⟩), .string (str r.pa), .int .i64 (n : Nat)] w' fun e w'' => e = .returned (.tuple #[]) ∧ PlcP w' g S2 (L ++ [r]) vr tb sb PT.length w'' from by
    have h1 := h.tri.pts
    have h2 := HN.out
    have h3 := Hn2.out
    rw [← HN.out]
    exact tplace_any r HRi.out w' (HE.out.on h.bel) h.tri.blk h.tri.nod h.tri.g2 h.tri.lt2 h.tri.sns (by omega) (by omega))
  have HSS := Lib.hid (fun (w' : World) (h : AdI w G g S1 S2 L vr tb tn T sb sn D vn N PT r w') => show w'.cell? ⟨G, 2, none⟩ = some (.string (str r.pa)) ∧ w'.cell? ⟨g, 0, none⟩ = some (.slice AR n cR) from ⟨(ru_cells h.box).2.2.1, by rw [← HVr.out]; exact h.tri.blk.cell 0⟩)
  clear hw5 hI5 HI4
  refine wp_norm ?_
  refine wp_region_held_drew (S := fun w' => w'.cell? ⟨G, 2, none⟩ = some (.string (str r.pa)) ∧ w'.cell? ⟨g, 0, none⟩ = some (.slice AR n cR)) (by kernel_rfl) (HSS.out _ HI5.out) (fun h0 => ?_)
  generalize w5.drew = w6 at *
  refine hd_take 0 (some 32) (.pointer (some ⟨g, 0, none⟩)) rfl rfl (by kernel_rfl) (by kernel_rfl) (by kernel_rfl) (fun _ _ _ h => nomatch h.1) (Or.inl ⟨by rfl, fun w hw => by go_simp⟩) h0 ?_
  simp only [Act.put, List.setIfInBounds_toArray, List.set_cons_zero, List.set_cons_succ]
  refine hd_take 1 (some 33) (.pointer (some ⟨G, 2, none⟩)) rfl rfl (by kernel_rfl) (by kernel_rfl) (by kernel_rfl) (fun _ _ _ h => nomatch h.1) (Or.inl ⟨by rfl, fun w hw => by go_simp⟩) h0 ?_
  simp only [Act.put, List.setIfInBounds_toArray, List.set_cons_zero, List.set_cons_succ]
  refine hd_take 2 (some 34) (.string (str r.pa)) rfl rfl (by kernel_rfl) (by kernel_rfl) (by kernel_rfl) (fun _ _ _ h => nomatch h.1) (Or.inl ⟨by rfl, fun w hw => by have h9 := hw.1; go_simp⟩) h0 ?_
  simp only [Act.put, List.setIfInBounds_toArray, List.set_cons_zero, List.set_cons_succ]
  refine hd_take 3 (some 35) (.pointer (some ⟨g, 0, none⟩)) rfl rfl (by kernel_rfl) (by kernel_rfl) (by kernel_rfl) (fun _ _ _ h => nomatch h.1) (Or.inl ⟨by rfl, fun w hw => by go_simp⟩) h0 ?_
  simp only [Act.put, List.setIfInBounds_toArray, List.set_cons_zero, List.set_cons_succ]
  refine hd_take 4 (some 36) (.pointer (some ⟨g, 0, none⟩)) rfl rfl (by kernel_rfl) (by kernel_rfl) (by kernel_rfl) (fun _ _ _ h => nomatch h.1) (Or.inl ⟨by rfl, fun w hw => by go_simp⟩) h0 ?_
  simp only [Act.put, List.setIfInBounds_toArray, List.set_cons_zero, List.set_cons_succ]
  refine hd_take 5 (some 37) (.pointer (some ⟨g, 0, none⟩)) rfl rfl (by kernel_rfl) (by kernel_rfl) (by kernel_rfl) (fun _ _ _ h => nomatch h.1) (Or.inl ⟨by rfl, fun w hw => by go_simp⟩) h0 ?_
  simp only [Act.put, List.setIfInBounds_toArray, List.set_cons_zero, List.set_cons_succ]
  refine hd_take 6 (some 38) (.slice AR n cR) rfl rfl (by kernel_rfl) (by kernel_rfl) (by kernel_rfl) (fun _ _ _ h => nomatch h.1) (Or.inl ⟨by rfl, fun w hw => by have h9 := hw.2; go_simp⟩) h0 ?_
  simp only [Act.put, List.setIfInBounds_toArray, List.set_cons_zero, List.set_cons_succ]
  refine hd_take 7 (some 39) (.int .i64 (n : Nat)) rfl rfl (by kernel_rfl) (by kernel_rfl) (by kernel_rfl) (fun _ _ _ h => nomatch h.1) (Or.inl ⟨by rfl, fun w hw => by go_simp⟩) h0 ?_
  simp only [Act.put, List.setIfInBounds_toArray, List.set_cons_zero, List.set_cons_succ]
  refine wpAnyH_ready (rs := [8]) (by kernel_rfl) (by simp) (AllReadyH.cons rfl (fun K hK => ?_) AllReadyH.nil)
  go_simp
  refine (HPl.out _ HI5.out).mono ?_
  rintro e w7 ⟨rfl, hP⟩
  obtain ⟨S9, sn9, D9, vn9, N9, PT9, hP⟩ := hP
  have HM7 := Lib.hid (HI5.out.place hP)
  have HTh := Lib.hid (show (∀ q, OkU q → (Maps.has T (kU q) = true ↔ ∃ x ∈ L, { x with al := false } = q)) ∧ (∀ x ∈ L, rightS x = 0) ∧ tn ≤ L.length ∧ PT.length ≤ 1 + 300 * L.length from ⟨HI5.out.tri.tha, HI5.out.tri.right, HI5.out.tri.tns, HI5.out.tri.pts⟩)
  refine hK.out _ _ ⟨(ru_cells HM7.out.box).2.2.1, by rw [← HVr.out]; exact HM7.out.blk.cell 0⟩ (fun h1 => ?_)
  clear hK K h0 h1 hP HI5 HSS HPl
  refine wpAnyH_done (by kernel_rfl) ⟨rfl, ?_⟩ _
  go_upto_region 11 with fail
  have HM8 := Lib.hid (HM7.out.on (show Below w7.heap.size w7 w7.drew from (Below.refl _ _).drew))
  clear HM7
  refine wp_norm ?_
  refine wp_region_held_drew (S := fun w' => w'.rangeAt G 0 (ruC r).toList ∧ w'.cell? ⟨g, 1, none⟩ = some (.map (some tb))) (by kernel_rfl) ⟨range_b HM8.out.box, HM8.out.blk.cell 1⟩ (fun h0 => ?_)
  generalize w7.drew = w8 at *
  refine hd_take 0 (some 41) (.pointer (some ⟨g, 0, none⟩)) rfl rfl (by kernel_rfl) (by kernel_rfl) (by kernel_rfl) (fun _ _ _ h => nomatch h.1) (Or.inl ⟨by rfl, fun w hw => by go_simp⟩) h0 ?_
  simp only [Act.put, List.setIfInBounds_toArray, List.set_cons_zero, List.set_cons_succ]
  refine hd_take 1 (some 42) (.pointer (some ⟨g, 0, none⟩)) rfl rfl (by kernel_rfl) (by kernel_rfl) (by kernel_rfl) (fun _ _ _ h => nomatch h.1) (Or.inl ⟨by rfl, fun w hw => by go_simp⟩) h0 ?_
  simp only [Act.put, List.setIfInBounds_toArray, List.set_cons_zero, List.set_cons_succ]
  refine hd_take 2 (some 43) (.pointer (some ⟨g, 1, none⟩)) rfl rfl (by kernel_rfl) (by kernel_rfl) (by kernel_rfl) (fun _ _ _ h => nomatch h.1) (Or.inl ⟨by rfl, fun w hw => by go_simp⟩) h0 ?_
  simp only [Act.put, List.setIfInBounds_toArray, List.set_cons_zero, List.set_cons_succ]
  refine hd_take 3 (some 44) (.map (some tb)) rfl rfl (by kernel_rfl) (by kernel_rfl) (by kernel_rfl) (fun _ _ _ h => nomatch h.1) (Or.inl ⟨by rfl, fun w hw => by have h9 := hw.2; go_simp⟩) h0 ?_
  simp only [Act.put, List.setIfInBounds_toArray, List.set_cons_zero, List.set_cons_succ]
  refine hd_take 4 (some 45) (.agg (ruC r)) rfl rfl (by kernel_rfl) (by kernel_rfl) (by kernel_rfl) (fun _ _ _ h => nomatch h.1) (yieldsIf_load_mid (by rfl) _ _ rfl G 0 rfl (ruC r).toList _ (fun _ h => h.1) undU rfl (ruU_len r)) h0 ?_
  simp only [Act.put, List.setIfInBounds_toArray, List.set_cons_zero, List.set_cons_succ]
  refine hd_take 6 (some 47) (.agg #[]) rfl rfl (by kernel_rfl) (by kernel_rfl) (by kernel_rfl) (fun _ _ _ h => nomatch h.1) (Or.inl ⟨by rfl, fun w hw => by go_simp⟩) h0 ?_
  simp only [Act.put, List.setIfInBounds_toArray, List.set_cons_zero, List.set_cons_succ]
  refine wpAnyH_ready (rs := [5]) (by kernel_rfl) (by simp) (AllReadyH.cons rfl (fun K hK => ?_) AllReadyH.nil)
  go_simp
  refine (HBr9.out _).mono ?_
  rintro e w9 ⟨rfl, hb⟩
  have HM9 := Lib.hid (HM8.out.on hb)
  refine hK.out _ _ ⟨range_b HM9.out.box, HM9.out.blk.cell 1⟩ (fun h1 => ?_)
  clear hK K h0 hb HM8
  obtain ⟨wa, hrun, hown, hbt⟩ := thr_store HM9.out.thr (ok_bare HRk.out.1) (by have := HTh.out.2.2.1; have := HN.out; have := Hn2.out; omega)
  have HMa := Lib.hid (HM9.out.store hown hbt)
  have HTa := Lib.hid (tha_put (r := r) HM9.out.thr.isMap HTh.out.1 HRk.out.1 (.agg []))
  clear hown hbt HM9
  refine wpAnyH_ready (rs := [7]) (by kernel_rfl) (by simp) (AllReadyH.cons rfl (fun K hK => ?_) AllReadyH.nil)
  go_simp
  refine hK.out _ _ ⟨range_b HMa.out.box, HMa.out.blk.cell 1⟩ (fun h2 => ?_)
  clear hK K h1 h2 hrun
  refine wpAnyH_done (by kernel_rfl) ⟨rfl, ?_⟩ _
  go_upto_region 12 with fail
  have HMb := Lib.hid (HMa.out.on (show Below wa.heap.size wa wa.drew from (Below.refl _ _).drew))
  clear HMa
  have HEnd := Lib.hid (fun (ww w9 : World) (v : Value) (h : AmI w G g S1 S2 S9 L vr tb (tn + 1) (T.put (kU { r with al := false }) (.agg [])) sb sn9 D9 vn9 N9 PT9 r PT.length ww) (hA : OwnE w9 elU 0 v (L ++ [r])) (k : But vr.ownBlock.toList ww w9) (hv : v.ownBlock = vr.ownBlock ∨ v.ownBlock = some ww.heap.size) => show AddP w g S L r (.returned (.int .i64 0)) (w9.setCell ⟨g, 0, none⟩ v) from by
    obtain ⟨Sx, h1, h2, h3⟩ := h.done hA k hv HTa.out (fun x hx => by
      rcases List.mem_append.1 hx with hx | hx
      · exact HTh.out.2.1 x hx
      · rw [List.mem_singleton.1 hx]; exact HRk.out.2) (by have := HN.out; have := Hn2.out; omega) (by have := HTh.out.2.2.1; omega) HTh.out.2.2.2
    refine ⟨Sx, by rw [HA2.out], by rw [HAS.out, if_pos HA2.out]; exact h1, fun i hi => ?_, h3.more (fun i hi => ?_)⟩
    · rcases h2 i hi with h2 | h2
      · exact .inl ((HS.out i).2 (List.mem_append.1 h2))
      · exact .inr h2
    · rcases List.mem_cons.1 hi with e | hi
      · rw [e]; simp
      · exact List.mem_cons_of_mem _ ((HS.out i).2 (List.mem_append.1 hi)))
  have HG0 := Lib.hid (show G ∉ vr.ownBlock.toList from fun hm => by
    have h1 := HMb.out.in1 G (Option.mem_toList.1 hm)
    have h2 := HGl.out G (by simp [h1])
    have h3 := HG.out
    omega)
  have HGg := Lib.hid (show g ∉ vr.ownBlock.toList from fun hm => HMb.out.g1 (HMb.out.in1 g (Option.mem_toList.1 hm)))
  have HGn := Lib.hid (show G ≠ g from fun e => by
    have h2 := HGl.out g (by simp)
    have h3 := HG.out
    omega)
  have HC0 := Lib.hid (fun (w' : World) (h : AmI w G g S1 S2 S9 L vr tb (tn + 1) (T.put (kU { r with al := false }) (.agg [])) sb sn9 D9 vn9 N9 PT9 r PT.length w') => show w'.cell? ⟨g, 0, none⟩ = some (.slice AR n cR) from by rw [← HVr.out]; exact h.blk.cell 0)
  clear HTa HTh
  refine wp_norm ?_
  refine wp_region_held_drew (S := fun w' => w'.rangeAt G 0 (ruC r).toList) (by kernel_rfl) (range_b HMb.out.box) (fun h0 => ?_)
  generalize wa.drew = wb at *
  refine hd_take 0 (some 48) (.pointer (some ⟨g, 0, none⟩)) rfl rfl (by kernel_rfl) (by kernel_rfl) (by kernel_rfl) (fun _ _ _ h => nomatch h.1) (Or.inl ⟨by rfl, fun w hw => by go_simp⟩) h0 ?_
  simp only [Act.put, List.setIfInBounds_toArray, List.set_cons_zero, List.set_cons_succ]
  refine hd_take 1 (some 49) (.pointer (some ⟨g, 0, none⟩)) rfl rfl (by kernel_rfl) (by kernel_rfl) (by kernel_rfl) (fun _ _ _ h => nomatch h.1) (Or.inl ⟨by rfl, fun w hw => by go_simp⟩) h0 ?_
  simp only [Act.put, List.setIfInBounds_toArray, List.set_cons_zero, List.set_cons_succ]
  refine hd_take 2 (some 50) (.pointer (some ⟨g, 0, none⟩)) rfl rfl (by kernel_rfl) (by kernel_rfl) (by kernel_rfl) (fun _ _ _ h => nomatch h.1) (Or.inl ⟨by rfl, fun w hw => by go_simp⟩) h0 ?_
  simp only [Act.put, List.setIfInBounds_toArray, List.set_cons_zero, List.set_cons_succ]
  refine hd_take 3 (some 51) (.pointer (some ⟨g, 0, none⟩)) rfl rfl (by kernel_rfl) (by kernel_rfl) (by kernel_rfl) (fun _ _ _ h => nomatch h.1) (Or.inl ⟨by rfl, fun w hw => by go_simp⟩) h0 ?_
  simp only [Act.put, List.setIfInBounds_toArray, List.set_cons_zero, List.set_cons_succ]
  refine hd_take 5 (some 53) (.agg (ruC r)) rfl rfl (by kernel_rfl) (by kernel_rfl) (by kernel_rfl) (fun _ _ _ h => nomatch h.1) (yieldsIf_load_mid (by rfl) _ _ rfl G 0 rfl (ruC r).toList _ (fun _ h => h) undU rfl (ruU_len r)) h0 ?_
  simp only [Act.put, List.setIfInBounds_toArray, List.set_cons_zero, List.set_cons_succ]
  refine wpAnyH_ready (rs := [4, 6]) (by kernel_rfl) (by simp) (AllReadyH.cons rfl (fun K hK => ?_) (AllReadyH.cons rfl (fun K hK => ?_) AllReadyH.nil))
  · skip
    have hc := HC0.out _ HMb.out
    go_simp
    clear hc
    refine hK.out _ _ (range_b HMb.out.box) (fun h1 => ?_)
    clear hK K h0
    refine wpAnyH_ready (rs := [6]) (by kernel_rfl) (by simp) (AllReadyH.cons rfl (fun K hK => ?_) AllReadyH.nil)
    go_simp
    have HMc := Lib.hid (HMb.out.on ((Below.refl _ _).alloc (Nat.le_refl _) (.cells (ruC r) 23)))
    have HSx := Lib.hid (show SrcE (wb.alloc (.cells (ruC r) 23)) elU (some ⟨wb.heap.size, 0, none⟩) [r] from SrcE.one _ (Blk.new _ _ _) rfl)
    refine hK.out _ (wb.alloc (.cells (ruC r) 23)) (range_b HMc.out.box) (fun h2 => ?_)
    clear hK K h1
    generalize wb.alloc (.cells (ruC r) 23) = wc at *
    refine wpAnyH_ready (rs := [7]) (by kernel_rfl) (by simp) (AllReadyH.cons rfl (fun K hK => ?_) AllReadyH.nil)
    refine wp_appE fineU (.tmp 52) (.tmp 54) rfl 0 (.slice AR n cR) L rfl (by rw [← HVr.out]; exact HMc.out.rul) _ 1 1 [r] rfl rfl (by simp) HSx.out (by have := HN.out; have := Hn2.out; simp only [List.length_singleton]; omega) (by decide) (Nat.zero_le _) ?_
    intro v6 w6 ho6 hg6 hf6
    obtain ⟨A6, c6, hv6, _, _, _⟩ := ho6.out.src fineU
    obtain ⟨m6, hm6⟩ : ∃ m6, (L ++ [r]).length = m6 := ⟨_, rfl⟩
    rw [hm6] at hv6
    subst hv6
    have hk6 : But vr.ownBlock.toList _ w6 := but_grown (by rw [HVr.out]; exact hg6.out)
    have HX6 := Lib.hid (HMc.out.box.but hk6 HG0.out)
    have hb6 := HMc.out.blk.but hk6 HGg.out
    have hc6 : w6.cell? ⟨g, 0, none⟩ = some (.slice AR n cR) := by rw [← HVr.out]; exact hb6.cell 0
    have hr6 := hb6.frozen 0
    have HZ := Lib.hid (HEnd.out _ _ _ HMc.out ho6.out hk6 (by rw [HVr.out]; exact hf6.out))
    have HXs := Lib.hid (show (w6.setCell ⟨g, 0, none⟩ (.slice A6 m6 c6)).rangeAt G 0 (ruC r).toList from range_b (HX6.out.far HGn.out _))
    clear hk6 hb6 ho6 hg6 hf6 HSx hm6
    refine hK.out _ _ (range_b HX6.out) (fun h6 => ?_)
    clear hK K h2
    refine hd_take 8 (some 56) (.pointer (some ⟨g, 0, none⟩)) rfl rfl (by kernel_rfl) (by kernel_rfl) (by kernel_rfl) (fun _ _ _ h => nomatch h.1) (Or.inl ⟨by rfl, fun w hw => by go_simp⟩) h6 ?_
    simp only [Act.put, List.setIfInBounds_toArray, List.set_cons_zero, List.set_cons_succ]
    refine hd_take 9 (some 57) (.pointer (some ⟨g, 0, none⟩)) rfl rfl (by kernel_rfl) (by kernel_rfl) (by kernel_rfl) (fun _ _ _ h => nomatch h.1) (Or.inl ⟨by rfl, fun w hw => by go_simp⟩) h6 ?_
    simp only [Act.put, List.setIfInBounds_toArray, List.set_cons_zero, List.set_cons_succ]
    refine wpAnyH_ready (rs := [10]) (by kernel_rfl) (by simp) (AllReadyH.cons rfl (fun K hK => ?_) AllReadyH.nil)
    go_simp
    refine hK.out _ _ HXs.out (fun h7 => ?_)
    clear hK K h6 h7 hc6 hr6 HXs HX6
    refine wpAnyH_done (by kernel_rfl) ⟨rfl, ?_⟩ _
    go_wp2_with fail
    go_ret
    exact HZ.out
  · skip
    go_simp
    have HMc := Lib.hid (HMb.out.on ((Below.refl _ _).alloc (Nat.le_refl _) (.cells (ruC r) 23)))
    have HSx := Lib.hid (show SrcE (wb.alloc (.cells (ruC r) 23)) elU (some ⟨wb.heap.size, 0, none⟩) [r] from SrcE.one _ (Blk.new _ _ _) rfl)
    refine hK.out _ (wb.alloc (.cells (ruC r) 23)) (range_b HMc.out.box) (fun h1 => ?_)
    clear hK K h0
    generalize wb.alloc (.cells (ruC r) 23) = wc at *
    refine wpAnyH_ready (rs := [4]) (by kernel_rfl) (by simp) (AllReadyH.cons rfl (fun K hK => ?_) AllReadyH.nil)
    have hc := HC0.out _ HMc.out
    go_simp
    clear hc
    refine hK.out _ _ (range_b HMc.out.box) (fun h2 => ?_)
    clear hK K h1
    refine wpAnyH_ready (rs := [7]) (by kernel_rfl) (by simp) (AllReadyH.cons rfl (fun K hK => ?_) AllReadyH.nil)
    refine wp_appE fineU (.tmp 52) (.tmp 54) rfl 0 (.slice AR n cR) L rfl (by rw [← HVr.out]; exact HMc.out.rul) _ 1 1 [r] rfl rfl (by simp) HSx.out (by have := HN.out; have := Hn2.out; simp only [List.length_singleton]; omega) (by decide) (Nat.zero_le _) ?_
    intro v6 w6 ho6 hg6 hf6
    obtain ⟨A6, c6, hv6, _, _, _⟩ := ho6.out.src fineU
    obtain ⟨m6, hm6⟩ : ∃ m6, (L ++ [r]).length = m6 := ⟨_, rfl⟩
    rw [hm6] at hv6
    subst hv6
    have hk6 : But vr.ownBlock.toList _ w6 := but_grown (by rw [HVr.out]; exact hg6.out)
    have HX6 := Lib.hid (HMc.out.box.but hk6 HG0.out)
    have hb6 := HMc.out.blk.but hk6 HGg.out
    have hc6 : w6.cell? ⟨g, 0, none⟩ = some (.slice AR n cR) := by rw [← HVr.out]; exact hb6.cell 0
    have hr6 := hb6.frozen 0
    have HZ := Lib.hid (HEnd.out _ _ _ HMc.out ho6.out hk6 (by rw [HVr.out]; exact hf6.out))
    have HXs := Lib.hid (show (w6.setCell ⟨g, 0, none⟩ (.slice A6 m6 c6)).rangeAt G 0 (ruC r).toList from range_b (HX6.out.far HGn.out _))
    clear hk6 hb6 ho6 hg6 hf6 HSx hm6
    refine hK.out _ _ (range_b HX6.out) (fun h6 => ?_)
    clear hK K h2
    refine hd_take 8 (some 56) (.pointer (some ⟨g, 0, none⟩)) rfl rfl (by kernel_rfl) (by kernel_rfl) (by kernel_rfl) (fun _ _ _ h => nomatch h.1) (Or.inl ⟨by rfl, fun w hw => by go_simp⟩) h6 ?_
    simp only [Act.put, List.setIfInBounds_toArray, List.set_cons_zero, List.set_cons_succ]
    refine hd_take 9 (some 57) (.pointer (some ⟨g, 0, none⟩)) rfl rfl (by kernel_rfl) (by kernel_rfl) (by kernel_rfl) (fun _ _ _ h => nomatch h.1) (Or.inl ⟨by rfl, fun w hw => by go_simp⟩) h6 ?_
    simp only [Act.put, List.setIfInBounds_toArray, List.set_cons_zero, List.set_cons_succ]
    refine wpAnyH_ready (rs := [10]) (by kernel_rfl) (by simp) (AllReadyH.cons rfl (fun K hK => ?_) AllReadyH.nil)
    go_simp
    refine hK.out _ _ HXs.out (fun h7 => ?_)
    clear hK K h6 h7 hc6 hr6 HXs HX6
    refine wpAnyH_done (by kernel_rfl) ⟨rfl, ?_⟩ _
    go_wp2_with fail
    go_ret
    exact HZ.out
end Go.Proofs.YtlpondbcnfaggaaGreatDoor.Tr
