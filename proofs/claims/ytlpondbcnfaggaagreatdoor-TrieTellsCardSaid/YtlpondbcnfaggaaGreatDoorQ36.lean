/-
  Contract of package trie's Find over this seat's translation: it answers what findS says. Condition: a host of up to a million bytes, up to a million protocols.
-/
import Derived.Test.YtlpondbcnfaggaaGreatDoorQ28
import Derived.Test.YtlpondbcnfaggaaGreatDoorQ34
import Derived.Test.YtlpondbcnfaggaaGreatDoorQ35
namespace Go.Proofs.YtlpondbcnfaggaaGreatDoor.Tr
open Go.RowKit Go.Shelf Go.Proofs.YtlpondbcnfaggaaGreatDoor.Wd Go.Proofs.YtlpondbcnfaggaaGreatDoor.Asc Go.Proofs.YtlpondbcnfaggaaGreatDoor.Tx Go.Proofs.YtlpondbcnfaggaaGreatDoor.St Go.Proofs.YtlpondbcnfaggaaGreatDoor.Te Go.Maps

attribute [local go_sem] Oper.semAt_some

/-- what Find keeps: the trie's address, the port, the protocols, the result's place, the best place so far, each in a block of its own, from block G on -/
structure FndI (w : World) (g : Nat) (port : Int) (A : Option Addr) (n c : Nat) (e : Int) (ww : World) : Prop where
  b0 : Blk ww w.heap.size 33 #[.pointer (some ⟨g, 0, none⟩)]
  b1 : Blk ww (w.heap.size + 1) 3 #[.int .i64 port]
  b2 : Blk ww (w.heap.size + 1 + 1) 30 #[.slice A n c]
  b3 : Blk ww (w.heap.size + 1 + 1 + 1) 23 (ruC Ru.zero)
  b4 : Blk ww (w.heap.size + 1 + 1 + 1 + 1) 3 #[.int .i64 e]
  bel : Below w.heap.size w ww
section
variable {w : World} {g : Nat} {port : Int} {A : Option Addr} {n c : Nat} {e : Int} {ww w' : World}
theorem FndI.grown {row : Option Nat} (h : FndI w g port A n c e ww) (hg : ww.grownBy w' row) (hr : ∀ r, row = some r → ww.heap.size ≤ r ∨ w.heap.size + 1 + 1 + 1 + 1 < r) : FndI w g port A n c e w' := by
  have z := h.b4.lt
  have z0 := h.bel.size
  have far : ∀ i, i ≤ w.heap.size + 1 + 1 + 1 + 1 → some i ≠ row := fun i hi e => by
    rcases hr i e.symm with h1 | h1 <;> omega
  exact ⟨h.b0.grown hg (far _ (by omega)), h.b1.grown hg (far _ (by omega)), h.b2.grown hg (far _ (by omega)), h.b3.grown hg (far _ (by omega)), h.b4.grown hg (far _ (by omega)), h.bel.grown hg z0 (fun k hk => by
    rcases hr k hk with h1 | h1 <;> omega)⟩
theorem FndI.on (h : FndI w g port A n c e ww) (hb : Below ww.heap.size ww w') : FndI w g port A n c e w' :=
  ⟨h.b0.below hb h.b0.lt, h.b1.below hb h.b1.lt, h.b2.below hb h.b2.lt, h.b3.below hb h.b3.lt, h.b4.below hb h.b4.lt, h.bel.trans (hb.mono h.bel.size)⟩
theorem FndI.set_ (h : FndI w g port A n c e ww) (e' : Int) : FndI w g port A n c e' (ww.setCell ⟨w.heap.size + 1 + 1 + 1 + 1, 0, none⟩ (.int .i64 e')) := by
  have f := fun i (hi : i < w.heap.size + 1 + 1 + 1 + 1) => (show i ≠ (⟨w.heap.size + 1 + 1 + 1 + 1, 0, none⟩ : Addr).block from by show i ≠ w.heap.size + 1 + 1 + 1 + 1; omega)
  exact ⟨h.b0.far (f _ (by omega)) _, h.b1.far (f _ (by omega)) _, h.b2.far (f _ (by omega)) _, h.b3.far (f _ (by omega)) _, h.b4.set_ 0 _, h.bel.setCell (p := ⟨w.heap.size + 1 + 1 + 1 + 1, 0, none⟩) (by show w.heap.size ≤ w.heap.size + 1 + 1 + 1 + 1; omega) _⟩
end
theorem find_boxes (w : World) (g : Nat) (port : Int) (A : Option Addr) (n c : Nat) : ∃ w5, (((((w.alloc (.cells #[.pointer (some ⟨g, 0, none⟩)] 33)).alloc (.cells #[.int .i64 port] 3)).alloc (.cells #[.slice A n c] 30)).alloc (.cells zU 23)).alloc (.cells #[.int .i64 (-1)] 3)) = w5 ∧ FndI w g port A n c (-1) w5 := by
  have a0 := Blk.new w 33 #[.pointer (some ⟨g, 0, none⟩)]
  have l0 : Below w.heap.size w (w.alloc (.cells #[.pointer (some ⟨g, 0, none⟩)] 33)) := (Below.refl _ _).alloc (Nat.le_refl _) _
  have s0 := alloc_size w (.cells #[.pointer (some ⟨g, 0, none⟩)] 33)
  generalize w.alloc (.cells #[.pointer (some ⟨g, 0, none⟩)] 33) = w1 at *
  have a1 := Blk.new w1 3 #[.int .i64 port]
  have a0 := a0.alloc (.cells #[.int .i64 port] 3)
  have l1 := l0.alloc l0.size (.cells #[.int .i64 port] 3)
  have s1 := alloc_size w1 (.cells #[.int .i64 port] 3)
  rw [s0] at a1 s1
  generalize w1.alloc (.cells #[.int .i64 port] 3) = w2 at *
  have a2 := Blk.new w2 30 #[.slice A n c]
  have a0 := a0.alloc (.cells #[.slice A n c] 30)
  have a1 := a1.alloc (.cells #[.slice A n c] 30)
  have l2 := l1.alloc l1.size (.cells #[.slice A n c] 30)
  have s2 := alloc_size w2 (.cells #[.slice A n c] 30)
  rw [s1] at a2 s2
  generalize w2.alloc (.cells #[.slice A n c] 30) = w3 at *
  have a3 := (ru_zero w3).1
  have a0 := a0.alloc (.cells zU 23)
  have a1 := a1.alloc (.cells zU 23)
  have a2 := a2.alloc (.cells zU 23)
  have l3 := l2.alloc l2.size (.cells zU 23)
  have s3 := alloc_size w3 (.cells zU 23)
  rw [s2] at a3 s3
  generalize w3.alloc (.cells zU 23) = w4 at *
  have a4 := Blk.new w4 3 #[.int .i64 (-1)]
  rw [s3] at a4
  exact ⟨_, rfl, a0.alloc _, a1.alloc _, a2.alloc _, a3.alloc _, a4, l3.alloc l3.size _⟩
/-- rows, with their places -/
abbrev RowZ (w : World) (M : Nat) := { x : Nat × Sv × List Nat // OwnE w elP 0 x.2.1.v x.2.2 ∧ ∀ a ∈ x.2.2, a < M }
theorem rows_z (w : World) (M : Nat) : ∀ (rows : List Sv) (RR : List (List Nat)) (k : Nat), rows.length = RR.length → (∀ (i : Nat) (sv : Sv) (l : List Nat), rows[i]? = some sv → RR[i]? = some l → OwnE w elP 0 sv.v l) → (∀ l ∈ RR, ∀ a ∈ l, a < M) →
    ∃ zs : List (RowZ w M), zs.length = rows.length ∧ (∀ (j : Nat) (x : RowZ w M), zs[j]? = some x → x.1.1 = k + j ∧ rows[j]? = some x.1.2.1) ∧ zs.map (fun x => x.1.2.2) = RR
  | [], RR, _, h, _, _ => by
    obtain rfl : RR = [] := List.eq_nil_of_length_eq_zero h.symm
    exact ⟨[], rfl, fun j x h => by simp at h, rfl⟩
  | sv :: rows, [], _, h, _, _ => by simp at h
  | sv :: rows, l :: RR, k, h, ho, hm => by
    obtain ⟨zs, h1, h2, h3⟩ := rows_z w M rows RR (k + 1) (by simpa using h) (fun i sv l a b => ho (i + 1) sv l (by simpa using a) (by simpa using b)) (fun l hl => hm l (by simp [hl]))
    refine ⟨⟨(k, sv, l), ho 0 sv l rfl rfl, hm l (by simp)⟩ :: zs, by simp [h1], fun j x hx => ?_, by simp [h3]⟩
    cases j with
    | zero =>
      injection hx with hx
      subst hx
      exact ⟨rfl, rfl⟩
    | succ j =>
      obtain ⟨e1, e2⟩ := h2 j x (by simpa using hx)
      exact ⟨by omega, by simpa using e2⟩
/-- the best place, as a number -/
def encB : Option (Ru × Nat) → Int
  | none => -1
  | some x => (x.2 : Nat)
theorem go_snoc (L : List Ru) (C : Ru → Bool) (Q : List Nat) (a : Nat) (o : Option (Ru × Nat)) : goF L C (Q ++ [a]) o = stepF L C (goF L C Q o) a := by unfold goF; rw [List.foldl_append]; rfl
theorem go_app (L : List Ru) (C : Ru → Bool) (Q R : List Nat) (o : Option (Ru × Nat)) : goF L C (Q ++ R) o = goF L C R (goF L C Q o) := by unfold goF; rw [List.foldl_append]
/-- the best is one of the rules, in its place -/
theorem go_in (L : List Ru) (C : Ru → Bool) : ∀ (Q : List Nat) (o : Option (Ru × Nat)), (∀ x ∈ o, L[x.2]? = some x.1) → ∀ x ∈ goF L C Q o, L[x.2]? = some x.1
  | [], _, h => h
  | a :: Q, o, h => by
    refine go_in L C Q (stepF L C o a) ?_
    rcases step_cases L C o a with ⟨r, e1, _, _, e4⟩ | ⟨e1, _⟩
    · rw [e4]
      intro x hx
      injection hx with hx
      subst hx
      exact e1
    · rw [e1]; exact h
/-- a row known later was there ahead, if its block was -/
theorem own_back {α : Type} {e : El α} {w w' : World} {B : Nat} {v : Value} {l : List α} (h : OwnE w' e B v l) (hb : Below w.heap.size w w') (hv : ∀ b, v.ownBlock = some b → b < w.heap.size) : OwnE w e B v l := by
  obtain ⟨hl, h0 | ⟨g, cap, cur, rfl, hg, hh, r⟩⟩ := h
  · exact ⟨hl, .inl h0⟩
  · exact ⟨hl, .inr ⟨g, cap, cur, rfl, hg, (hb.block g (hv g rfl)).symm.trans hh, r⟩⟩
theorem step_yes {L : List Ru} {C : Ru → Bool} {o : Option (Ru × Nat)} {a : Nat} {r : Ru} (h : L[a]? = some r) (hc : C r = true) (ho : ∀ x ∈ o, x.1.pr < r.pr) : stepF L C o a = some (r, a) := by
  unfold stepF
  rw [h]
  exact if_pos ⟨hc, ho⟩
theorem step_no {L : List Ru} {C : Ru → Bool} {o : Option (Ru × Nat)} {a : Nat} {r : Ru} (h : L[a]? = some r) (hc : ¬ (C r = true ∧ ∀ x ∈ o, x.1.pr < r.pr)) : stepF L C o a = o := by
  unfold stepF
  rw [h]
  exact if_neg hc
theorem ru_newF (w : World) (al : Bool) (pr : Int) (pa : List UInt8) (po : Int) (ap : List UInt8) : ∃ w2, w.alloc (.cells #[.bool al, .int .i64 pr, .string (str pa), .int .i64 po, .string (str ap)] 23) = w2 ∧ Blk w2 w.heap.size 23 (ruC ⟨al, pr, pa, po, ap⟩) ∧ Below w.heap.size w w2 :=
  ⟨_, rfl, Blk.new _ _ _, (Below.refl _ _).alloc (Nat.le_refl _) _⟩
theorem keeps_below {B : Nat} {W W' : World} (h : Below W.heap.size W W') : KeepsFrom B W W' := ⟨h.size, fun k _ _ hk _ => (h.block k (Array.getElem?_eq_some_iff.1 hk).1).trans hk⟩
theorem kp_below {B b : Nat} {W W' : World} (h : Below W.heap.size W W') (hB : B ≤ W.heap.size) : KpB B b W W' := KpB.below (h.mono hB)
set_option linter.unusedSimpArgs false in
set_option maxRecDepth 100000 in
theorem put_below {B D : Nat} {W : World} (h : B ≤ D) (o : Obj) : Below B W (W.putObj D o) :=
  ⟨rfl, rfl, rfl, by simp, fun k hk => World.putObj_heap_other (by omega)⟩
/-- a return out of the function that held the range, its row put in a block, its mark taken -/
theorem retM_three {F : Fence} {m : Nat} {fn : Func} {p q r : Tmp} {ty t : TypeId} {a : Act} {w : World} {g n D : Nat} {C : Array Value} {v u : Value} {d : TypeDesc} {R : Ending → World → Prop} (hf : fn.results = #[.cell p ty, .tmp q, .tmp r]) (hb : Blk w g t C) (hu : Tryz.prog.underlying ty = some d)
    (hd : d.isRow = true) (hi : (Tryz.prog.info? ty).map (·.size) = some n) (hn : C.size = n) (hp : a.tmps.getD p undef = .pointer (some ⟨g, 0, none⟩)) (hq : a.tmps.getD q undef = v) (hr : a.tmps.getD r undef = u)
    (hdf : a.defers = [{ target := .collected D, args := #[] }]) (hK : w.heap[D]? = some (.deferred (some []))) (hne : g ≠ D) (h : R (.returned (.tuple #[.agg C, v, u])) (w.putObj D (.deferred none))) : bodyPostM F m Tryz.prog fn R .ret a w := by
  have hp' : a.tmps[p]?.getD undef = .pointer (some ⟨g, 0, none⟩) := by simpa using hp
  have hq' : a.tmps[q]?.getD undef = v := by simpa using hq
  have hr' : a.tmps[r]?.getD undef = u := by simpa using hr
  have hb' : Blk (w.putObj D (.deferred none)) g t C := (World.putObj_heap_other hne).trans hb
  have hl := run_loadVar_row (w.putObj D (.deferred none)) g t ty C (0, 0) d hb' hu (by cases d <;> first | rfl | cases hd) (by rw [hi, hn])
  show LeavesInM F m Tryz.prog fn a.tmps R a.defers .returning w
  rw [hdf]
  exact ⟨by simp, .inl ⟨D, _, rfl, run_takeDeferred hK, .tuple #[.agg C, v, u], by simp [results, hf, hp', hq', hr', asAddr, hl], h⟩⟩
set_option linter.unusedSimpArgs false in
set_option maxRecDepth 100000 in
set_option maxHeartbeats 64000000 in
theorem tfind_any {B : Nat} {w : World} {g : Nat} {S : List Nat} {L : List Ru} (hE : Ad.Env B w) (hT : TriP w g S L) (h : ByteArray) (port : Int) (A : Option Addr) (n c : Nat) (ss : List ByteArray) (hh : h.size ≤ 1000000) (hp : -9223372036854775808 ≤ port ∧ port ≤ 9223372036854775807) (hn : ss.length = n) (_ : n ≤ c) (hm : n ≤ 1000000) (hs : SrcS w A ss) :
    Calls Tryz.prog 23 #[.pointer (some ⟨g, 0, none⟩), .string h, .int .i64 port, .slice A n c] w fun e w' => e = resF (findS L (bs h) port (ss.map bs)) ∧ Below w.heap.size w w' := by
  obtain ⟨S1, S2, vr, tb, tn, T, sb, sn, D, vn, N, PT, _, hI⟩ := hT
  have HT := Lib.hid hI
  obtain ⟨AR, cR, hvr, _, hsrc⟩ := hI.rul.src
  obtain ⟨NL, hNL⟩ : ∃ NL, L.length = NL := ⟨_, rfl⟩
  rw [hNL] at hvr
  have HNL := Lib.hid hNL
  have hmost : NL ≤ 200 := by rw [← hNL]; exact hI.most
  have HSr := Lib.hid hsrc
  have HR := Lib.hid (show ∀ r ∈ L, (cutP r.pa).1 ≠ 3 ∧ r.pa.length ≤ 1000000 ∧ r.ap.length ≤ 1000000 from fun r hr => by
    have h1 := right_ok (hI.right r hr)
    exact ⟨h1.2.1, h1.1.pa, h1.1.ap⟩)
  have HVr := Lib.hid hvr
  obtain ⟨w5, hw5, hF5⟩ := find_boxes w g port A n c
  have HW := Lib.hid hw5
  have HF5 := Lib.hid hF5
  have HM := Lib.hid (callsIn_wide (n := 2).2 (tmatching_any (B := B) h w5 (hE.on hF5.bel) hh (hI.below hF5.bel)))
  -- cells of the trie, wherever only new blocks came
  have HC0 := Lib.hid (fun (ww : World) (hb : Below w.heap.size w ww) => show ww.cell? ⟨g, 0, none⟩ = some (.slice AR NL cR) from by rw [← hvr]; exact (hI.below hb).blk.cell 0)
  obtain ⟨C, hC⟩ : ∃ C : Ru → Bool, (fun r => fitB r port (ss.map bs)) = C := ⟨_, rfl⟩
  have HFt := Lib.hid (fun (r : Ru) (w' : World) (hb : Below w.heap.size w w') => show Calls Tryz.prog 45 #[.agg (ruC r), .int .i64 port, .slice A n c] w' fun e w'' => e = .returned (.bool (C r)) ∧ Below w'.heap.size w' w'' from by
    rw [← hC]
    exact tfits_any r port A n c ss w' (hs.below hb) hn hm)
  have HQ := Lib.hid (show findS L (bs h) port (ss.map bs) = goF L C (rowsW L (Nm.labelsS (tailS (bs h)))).reverse.flatten none from by
    rw [← hC]
    exact (way_find (fun x hx => (HR.out x hx).1) (bs h) port (ss.map bs)).symm)
  obtain ⟨FS, hFS⟩ : ∃ FS, findS L (bs h) port (ss.map bs) = FS := ⟨_, rfl⟩
  rw [hFS] at HQ ⊢
  have HP := Lib.hid hp
  clear hI hvr hsrc hNL hw5 hF5 hE hh hp hn hm hs hC hFS
  refine (callsIn_wide (n := 3)).1 ?_
  refine callsIn_of_wp_marks Tryz.func23 rfl trivial ?_ rfl
  simp only [Tryz.ntmps23, List.size_toArray, List.length_cons, List.length_nil, Nat.reduceAdd, Nat.reduceSub, Array.replicate_succ, Array.replicate_zero, List.push_toArray, List.append_toArray, List.nil_append, List.cons_append]
  gi_wp2_with fail
  rw [show (((((w.alloc (.cells #[.pointer (some ⟨g, 0, none⟩)] 33)).alloc (.cells #[.int .i64 port] 3)).alloc (.cells #[.slice A n c] 30)).alloc (.cells #[Value.bool false, .int .i64 0, .string ⟨#[]⟩, .int .i64 0, .string ⟨#[]⟩] 23)).alloc (.cells #[.int .i64 (-1)] 3)) = w5 from HW.out]
  refine ⟨trivial, HM.out.mono ?_⟩
  rintro e w6 ⟨A6, m6, c6, rows, RR, rfl, ho6, hra, hfl, hrz, hb6⟩
  have HF6 := Lib.hid (HF5.out.on hb6)
  gi_wp2_with fail
  refine ⟨trivial, (tback_in Fence.wide 2 trivial rfl A6 m6 c6 w6).mono ?_⟩
  rintro e w7 ⟨rfl, rfl⟩
  -- the rows, with their places
  have hlt : ∀ l ∈ RR, ∀ a ∈ l, a < NL := fun l hl a ha => by
    have h1 : a ∈ RR.reverse.flatten := List.mem_flatten.2 ⟨l, List.mem_reverse.2 hl, ha⟩
    rw [hfl] at h1
    obtain ⟨l', hl', ha'⟩ := List.mem_flatten.1 h1
    rw [List.mem_reverse] at hl'
    obtain ⟨i, _, rfl⟩ := List.mem_map.1 hl'
    obtain ⟨r, h2, _⟩ := row_is ha'
    rw [← HNL.out]
    exact (List.getElem?_eq_some_iff.1 h2).1
  obtain ⟨zs, hz1, hz2, hz3⟩ := rows_z w NL rows RR 0 hra.1 (fun i sv l a b => own_back (hra.2 i sv l a b).1 HF5.out.bel (fun d hd => HT.out.lt2 d ((hra.2 i sv l a b).2 d hd))) hlt
  obtain ⟨A7, c7, hv7, _, _, hsr7⟩ := ho6.src fineV
  injection hv7 with e1 e2 e3
  subst e1 e2 e3
  have hbB := Blk.new w6 81 #[.slice A6 rows.length c6]
  have hlB : Below w6.heap.size w6 (w6.alloc (.cells #[.slice A6 rows.length c6] 81)) := (Below.refl _ _).alloc (Nat.le_refl _) _
  have hF7 := HF6.out.on hlB
  have hz7 := alloc_size w6 (.cells #[.slice A6 rows.length c6] 81)
  obtain ⟨W0, hW0⟩ : ∃ W0, w6.alloc (.cells #[.slice A6 rows.length c6] 81) = W0 := ⟨_, rfl⟩
  rw [hW0] at hbB hlB hF7 hz7 ⊢
  have hbb : w.heap.size + 1 + 1 + 1 + 1 < w5.heap.size := HF5.out.b4.lt
  have h56 := hb6.size
  have HSt := tback_stops (fun x : RowZ w NL => x.1.1) (fun x => x.1.2.1) Fence.wide 2 trivial rfl (by decide) w6.heap.size W0.heap.size (w.heap.size + 1 + 1 + 1 + 1) A6 rows.length c6 zs hz1 (fun j x hx => by rw [(hz2 j x hx).1, Nat.zero_add]) hrz W0 ⟨by omega, by omega⟩ (Nat.le_refl _) (hbB.cell 0) (fun j x hx => by
    obtain ⟨gr, o, hA, hgr, hcl⟩ := hsr7 j x.1.2.1 (hz2 j x hx).2
    have hge := ho6.ge gr (by
      rcases ho6.row with ⟨e, _⟩ | ⟨gr', c', cur, e, _⟩
      · injection e with e _ _
        rw [e] at hA; cases hA
      · injection e with e _ _
        rw [e] at hA ⊢
        injection hA with hA
        injection hA with e4 _
        rw [e4]
        rfl)
    refine ⟨gr, o, hA, ⟨by omega, by omega⟩, ?_⟩
    rw [hlB.cell (p := ⟨gr, o + j, none⟩) hgr]
    have h9 := hcl 0 _ rfl
    rw [show o + (j * elV.n + 0) = o + j from by show o + (j * 1 + 0) = o + j; omega] at h9
    exact h9)
  have HFl := Lib.hid (show ((zs.reverse).map (fun x => x.1.2.2)).flatten = (rowsW L (Nm.labelsS (tailS (bs h)))).reverse.flatten from by rw [List.map_reverse, hz3, hfl])
  have HZ5 := Lib.hid (show w5.heap.size ≤ W0.heap.size from by omega)
  have HBb := Lib.hid hbb
  have HFb5 := HF5
  have HF7 := Lib.hid hF7
  have H67 := Lib.hid (show Below w5.heap.size w5 W0 from hb6.trans (hlB.mono h56))
  clear hlt hz1 hz2 hz3 hsr7 ho6 hra hfl hrz hb6 hbB hlB hF7 hz7 HM HF6 h56 hbb HW
  gi_wp2_with fail
  refine wpIn_rangeFunc_ownG (α := RowZ w NL) rfl (by decide) (gf := 78) (lb := #[.pointer (some ⟨w6.heap.size, 0, none⟩)]) rfl trivial (enters_of Tryz.func78 (by kernel_rfl) rfl)
    HSt KpB.trans (fun W l o o' hl _ _ _ => KpB.put W l o' hl) (Below.refl _ _) (fun _ => rfl)
    (fun pre W => Hid (FndI w g port A n c (encB (goF L C (pre.map (fun x : RowZ w NL => x.1.2.2)).flatten none)) W ∧ W0.heap.size ≤ W.heap.size)) (fun _ _ _ => False)
    (fun pre W W' row hs hg hr => Lib.hid ⟨hs.out.1.grown hg (fun r e => by have := (hr r e).1; have := HZ5.out; have := HBb.out; exact .inr (by omega)), Nat.le_trans hs.out.2 hg.size⟩)
    (fun _ _ _ _ _ hs _ _ => hs)
    (Lib.hid ⟨HF7.out, Nat.le_refl _⟩)
    (fun x => { tmps := #[.pointer (some ⟨g, 0, none⟩), .string h, .int .i64 port, .slice A n c, .pointer (some ⟨w.heap.size, 0, none⟩), undef, .pointer (some ⟨w.heap.size + 1, 0, none⟩), .pointer (some ⟨w.heap.size + 1 + 1, 0, none⟩), .pointer (some ⟨w.heap.size + 1 + 1 + 1, 0, none⟩), .int .i64 0, .bool false, .pointer (some ⟨w.heap.size + 1 + 1 + 1 + 1, 0, none⟩), undef, .slice x.1.2.1.a x.1.2.1.n x.1.2.1.c, undef, undef, undef, .pointer (some ⟨g, 0, none⟩), .string h, .slice A6 rows.length c6, .func (.func 78) #[] #[.pointer (some ⟨w6.heap.size, 0, none⟩)], .int .i64 (x.1.1 : Int), .slice x.1.2.1.a x.1.2.1.n x.1.2.1.c, undef, undef, undef, undef, undef, undef, undef, undef, undef, undef, undef, undef, undef, undef, undef, undef, undef, undef, undef, undef, undef, undef, undef, undef, undef, undef, undef, undef, undef, undef, undef, undef, undef, undef, undef, undef, undef, undef, undef, undef, undef, undef, undef, undef, undef, undef, undef, undef], defers := [] }) ?assign ?body ?done ?stop
  case assign =>
    intro l x W K hK
    gi_wp2
    exact hK
  case stop =>
    rintro D c pre W _ _ h _
    exact h.elim
  case body =>
    rintro l pre x W HI0 _
    obtain ⟨hxo, hxl⟩ := x.2
    obtain ⟨pl, hpl⟩ : ∃ pl, x.1.2.2 = pl := ⟨_, rfl⟩
    obtain ⟨xa, hxa⟩ : ∃ q, x.1.2.1.a = q := ⟨_, rfl⟩
    obtain ⟨xn, hxn⟩ : ∃ q, x.1.2.1.n = q := ⟨_, rfl⟩
    obtain ⟨xc, hxc⟩ : ∃ q, x.1.2.1.c = q := ⟨_, rfl⟩
    obtain ⟨xi, hxi⟩ : ∃ q, x.1.1 = q := ⟨_, rfl⟩
    have hsv : x.1.2.1.v = .slice xa xn xc := by unfold Sv.v; rw [hxa, hxn, hxc]
    rw [hpl, hsv] at hxo
    rw [hpl] at hxl
    dsimp only
    rw [hxa, hxn, hxc, hxi]
    obtain ⟨Q0, hQ0⟩ : ∃ Q0, (pre.map (fun x : RowZ w NL => x.1.2.2)).flatten = Q0 := ⟨_, rfl⟩
    have HQ1 := Lib.hid (show ((pre ++ [x]).map (fun x : RowZ w NL => x.1.2.2)).flatten = Q0 ++ pl from by rw [List.map_append, List.flatten_append, hQ0, List.map_singleton, hpl]; simp)
    have HF : Hid (FndI w g port A n c (encB (goF L C Q0 none)) W) := Lib.hid (by rw [← hQ0]; exact HI0.out.1)
    have HWz := Lib.hid HI0.out.2
    clear HI0 hQ0 hpl hxa hxn hxc hxi hsv
    obtain ⟨Ap, cp, hvp, hx1, hx2, hsp⟩ := hxo.src fineP
    have HXm := Lib.hid (show pl.length ≤ 9223372036854775807 from by unfold maxLen at hx2; omega)
    clear hx1 hx2
    obtain ⟨mp, hmp⟩ : ∃ mp, pl.length = mp := ⟨_, rfl⟩
    rw [hmp] at hvp
    injection hvp with e1 e2 e3
    subst e1 e2 e3
    have HMp := Lib.hid hmp
    have HSp := Lib.hid hsp
    have HXl := Lib.hid hxl
    clear hsp hmp hxl hxo
    gi_wp2_with fail
    gi_loopw [25] (fun x25 wr => ∃ (k : Nat) (ww : World), ww = wr ∧ k ≤ xn ∧ x25 = .int .i64 (k : Nat) ∧ Hid (FndI w g port A n c (encB (goF L C (Q0 ++ pl.take k) none)) ww) ∧ Hid (KeepsFrom W0.heap.size W ww) ∧ Hid (KpB W0.heap.size (w.heap.size + 1 + 1 + 1 + 1) W ww)) (fun x25 _ => xn - (intOf x25).toNat)
    case atStart => exact ⟨0, W, rfl, Nat.zero_le _, rfl, Lib.hid (by rw [List.take_zero, List.append_nil]; exact HF.out), Lib.hid (KeepsFrom.refl _ _), Lib.hid (KpB.refl _ _ _)⟩
    case round =>
      clear HF
      obtain ⟨k, ww, rfl, hk, rfl, HF, HKf, HKb⟩ := hrel
      by_cases hlt : k < xn
      · have HLt := Lib.hid hlt
        have hk9 : (k : Int) + 1 ≤ 9223372036854775807 := by have := HXm.out; have := HMp.out; omega
        have hki : (k : Int) < (xn : Int) := by omega
        obtain ⟨a, ha⟩ : ∃ a, pl[k]? = some a := ⟨_, List.getElem?_eq_getElem (by rw [HMp.out]; exact hlt)⟩
        obtain ⟨gp, op, hA, hgp, hcl⟩ := HSp.out k a ha
        subst hA
        have hcp := (HF.out.bel.cell (p := ⟨gp, _, none⟩) hgp).trans (hcl 0 _ rfl)
        rw [show op + (k * elP.n + 0) = op + k from by show op + (k * 1 + 0) = op + k; omega] at hcp
        have haN := HXl.out a (List.mem_of_getElem? ha)
        have hai : (a : Int) < (NL : Int) := by omega
        obtain ⟨r, gr, p, hr, hA2, hgr, hra⟩ := HSr.out.get (wr := ww) (k := a) (by rw [HNL.out]; exact haN) HF.out.bel
        subst hA2
        have HQk := Lib.hid (show goF L C (Q0 ++ pl.take (k + 1)) none = stepF L C (goF L C (Q0 ++ pl.take k) none) a from by
          rw [List.take_add_one, ha, ← List.append_assoc]
          exact go_snoc L C (Q0 ++ pl.take k) a none)
        have HRr := Lib.hid hr
        have c0 := HF.out.b0.cell 0
        have c1 := HC0.out ww HF.out.bel
        obtain ⟨o, ho⟩ : ∃ o, goF L C (Q0 ++ pl.take k) none = o := ⟨_, rfl⟩
        have HO := Lib.hid (show ∀ x ∈ o, L[x.2]? = some x.1 from by rw [← ho]; exact go_in L C _ none (fun x hx => by cases hx))
        rw [ho] at HF HQk
        have HGr := Lib.hid hgr
        obtain ⟨al, pr, pa, po, ap⟩ := r
        obtain ⟨r0, r1, r2, r3, r4⟩ := hra
        dsimp only at r0 r1 r2 r3 r4
        clear ha hcl hgp hr ho hgr
        gi_wp2_with fail
        obtain ⟨w8, hw8, hbZ, hlZ⟩ := ru_newF ww al pr pa po ap
        rw [hw8]
        obtain ⟨Z, hZ⟩ : ∃ Z, ww.heap.size = Z := ⟨_, rfl⟩
        have H8 := Lib.hid hlZ
        have HF8 := Lib.hid (HF.out.on hlZ)
        rw [hZ] at hbZ ⊢
        have HZb := Lib.hid hbZ
        have HWw := Lib.hid (show W0.heap.size ≤ ww.heap.size from Nat.le_trans HWz.out HKf.out.size)
        clear hw8 hbZ hlZ hZ c0 c1 r0 r1 r2 r3 r4 hcp hai hki HF
        obtain ⟨v, hv⟩ : ∃ v, C ⟨al, pr, pa, po, ap⟩ = v := ⟨_, rfl⟩
        have HV := Lib.hid hv
        have HFr := Lib.hid (fun (w' : World) (hb : Below w.heap.size w w') => HFt.out ⟨al, pr, pa, po, ap⟩ w' hb)
        rw [hv] at HFr
        clear hv
        cases o with
        | none =>
          have HF8 : Hid (FndI w g port A n c (-1) w8) := HF8
          refine region_in (S := fun w' => FndI w g port A n c (-1) w' ∧ Blk w' Z 23 (ruC ⟨al, pr, pa, po, ap⟩)) (by kernel_rfl) (fun i o hi c e => by
            match i, hi with
            | 0, hi => injection hi with hi; subst hi; cases e
            | 1, hi => injection hi with hi; subst hi; cases e
            | 2, hi => injection hi with hi; subst hi; cases e
            | 3, hi => injection hi with hi; subst hi; cases e
            | 4, hi => injection hi with hi; subst hi; cases e
            | 5, hi => injection hi with hi; subst hi; cases e
            | 6, hi => injection hi with hi; subst hi; cases e
            | 7, hi => injection hi with hi; subst hi; cases e
            | 8, hi => injection hi with hi; subst hi; cases e
            | 9, hi => injection hi with hi; subst hi; cases e
            | 10, hi => injection hi with hi; subst hi; cases e
            | 11, hi => injection hi with hi; subst hi; cases e
            | 12, hi => injection hi with hi; subst hi; cases e
            | 13, hi => injection hi with hi; subst hi; cases e
            | 14, hi => injection hi with hi; subst hi; cases e
            | 15, hi => injection hi with hi; subst hi; cases e
            | 16, hi => injection hi with hi; subst hi; cases e
            | 17, hi => injection hi with hi; subst hi; cases e
            | 18, hi => injection hi with hi; subst hi; cases e
            | 19, hi => injection hi with hi; subst hi; cases e
            | 20, hi => injection hi with hi; subst hi; cases e
            | i + 21, hi => simp at hi) (by rintro ⟨a, w, h⟩; exact h) ⟨HF8.out.on (show Below w8.heap.size w8 w8.drew from (Below.refl _ _).drew), HZb.out.below (show Below w8.heap.size w8 w8.drew from (Below.refl _ _).drew) HZb.out.lt⟩ (fun h0 => ?_)
          refine hd_take 0 (some 36) (.int .i64 (-1)) rfl rfl (by kernel_rfl) (by kernel_rfl) (by kernel_rfl) (fun _ _ _ h => h) (Or.inl ⟨by rfl, fun w hw => by have h9 := hw.1.b4.cell 0; go_simp⟩) h0 ?_
          simp only [Act.put, List.setIfInBounds_toArray, List.set_cons_zero, List.set_cons_succ]
          refine hd_take 1 (some 37) (.bool true) rfl rfl (by kernel_rfl) (by kernel_rfl) (by kernel_rfl) (fun _ _ _ h => h) (Or.inl ⟨by rfl, fun w hw => by go_simp⟩) h0 ?_
          simp only [Act.put, List.setIfInBounds_toArray, List.set_cons_zero, List.set_cons_succ]
          refine hd_take 2 (some 38) (.bool true) rfl rfl (by kernel_rfl) (by kernel_rfl) (by kernel_rfl) (fun _ _ _ h => h) (Or.inl ⟨by rfl, fun w hw => by go_simp⟩) h0 ?_
          simp only [Act.put, List.setIfInBounds_toArray, List.set_cons_zero, List.set_cons_succ]
          refine hd_take 3 (some 39) (undef) rfl rfl (by kernel_rfl) (by kernel_rfl) (by kernel_rfl) (fun _ _ _ h => h) (Or.inr ⟨by rfl, rfl⟩) h0 ?_
          simp only [Act.put, List.setIfInBounds_toArray, List.set_cons_zero, List.set_cons_succ]
          refine hd_take 4 (some 40) (undef) rfl rfl (by kernel_rfl) (by kernel_rfl) (by kernel_rfl) (fun _ _ _ h => h) (Or.inr ⟨by rfl, rfl⟩) h0 ?_
          simp only [Act.put, List.setIfInBounds_toArray, List.set_cons_zero, List.set_cons_succ]
          refine hd_take 5 (some 41) (undef) rfl rfl (by kernel_rfl) (by kernel_rfl) (by kernel_rfl) (fun _ _ _ h => h) (Or.inr ⟨by rfl, rfl⟩) h0 ?_
          simp only [Act.put, List.setIfInBounds_toArray, List.set_cons_zero, List.set_cons_succ]
          refine hd_take 6 (some 42) (undef) rfl rfl (by kernel_rfl) (by kernel_rfl) (by kernel_rfl) (fun _ _ _ h => h) (Or.inr ⟨by rfl, rfl⟩) h0 ?_
          simp only [Act.put, List.setIfInBounds_toArray, List.set_cons_zero, List.set_cons_succ]
          refine hd_take 7 (some 43) (undef) rfl rfl (by kernel_rfl) (by kernel_rfl) (by kernel_rfl) (fun _ _ _ h => h) (Or.inr ⟨by rfl, rfl⟩) h0 ?_
          simp only [Act.put, List.setIfInBounds_toArray, List.set_cons_zero, List.set_cons_succ]
          refine hd_take 8 (some 44) (undef) rfl rfl (by kernel_rfl) (by kernel_rfl) (by kernel_rfl) (fun _ _ _ h => h) (Or.inr ⟨by rfl, rfl⟩) h0 ?_
          simp only [Act.put, List.setIfInBounds_toArray, List.set_cons_zero, List.set_cons_succ]
          refine hd_take 9 (some 45) (undef) rfl rfl (by kernel_rfl) (by kernel_rfl) (by kernel_rfl) (fun _ _ _ h => h) (Or.inr ⟨by rfl, rfl⟩) h0 ?_
          simp only [Act.put, List.setIfInBounds_toArray, List.set_cons_zero, List.set_cons_succ]
          refine hd_take 10 (some 46) (undef) rfl rfl (by kernel_rfl) (by kernel_rfl) (by kernel_rfl) (fun _ _ _ h => h) (Or.inr ⟨by rfl, rfl⟩) h0 ?_
          simp only [Act.put, List.setIfInBounds_toArray, List.set_cons_zero, List.set_cons_succ]
          refine hd_take 11 (some 47) (undef) rfl rfl (by kernel_rfl) (by kernel_rfl) (by kernel_rfl) (fun _ _ _ h => h) (Or.inr ⟨by rfl, rfl⟩) h0 ?_
          simp only [Act.put, List.setIfInBounds_toArray, List.set_cons_zero, List.set_cons_succ]
          refine hd_take 12 (some 48) (undef) rfl rfl (by kernel_rfl) (by kernel_rfl) (by kernel_rfl) (fun _ _ _ h => h) (Or.inr ⟨by rfl, rfl⟩) h0 ?_
          simp only [Act.put, List.setIfInBounds_toArray, List.set_cons_zero, List.set_cons_succ]
          refine hd_take 13 (some 49) (undef) rfl rfl (by kernel_rfl) (by kernel_rfl) (by kernel_rfl) (fun _ _ _ h => h) (Or.inr ⟨by rfl, rfl⟩) h0 ?_
          simp only [Act.put, List.setIfInBounds_toArray, List.set_cons_zero, List.set_cons_succ]
          refine hd_take 14 (some 50) (.bool true) rfl rfl (by kernel_rfl) (by kernel_rfl) (by kernel_rfl) (fun _ _ _ h => h) (Or.inl ⟨by rfl, fun w hw => by go_simp⟩) h0 ?_
          simp only [Act.put, List.setIfInBounds_toArray, List.set_cons_zero, List.set_cons_succ]
          refine hd_take 15 (some 51) (.bool true) rfl rfl (by kernel_rfl) (by kernel_rfl) (by kernel_rfl) (fun _ _ _ h => h) (Or.inl ⟨by rfl, fun w hw => by go_simp⟩) h0 ?_
          simp only [Act.put, List.setIfInBounds_toArray, List.set_cons_zero, List.set_cons_succ]
          refine hd_take 16 (some 52) (.agg (ruC ⟨al, pr, pa, po, ap⟩)) rfl rfl (by kernel_rfl) (by kernel_rfl) (by kernel_rfl) (fun _ _ _ h => h) (yieldsIf_load_mid (by rfl) _ _ rfl Z 0 rfl (ruC ⟨al, pr, pa, po, ap⟩).toList _ (fun _ h => range_b h.2) undU rfl (ruU_len _)) h0 ?_
          simp only [Act.put, List.setIfInBounds_toArray, List.set_cons_zero, List.set_cons_succ]
          refine hd_take 17 (some 53) (.int .i64 port) rfl rfl (by kernel_rfl) (by kernel_rfl) (by kernel_rfl) (fun _ _ _ h => h) (Or.inl ⟨by rfl, fun w hw => by have h9 := hw.1.b1.cell 0; go_simp⟩) h0 ?_
          simp only [Act.put, List.setIfInBounds_toArray, List.set_cons_zero, List.set_cons_succ]
          refine hd_take 18 (some 54) (.slice A n c) rfl rfl (by kernel_rfl) (by kernel_rfl) (by kernel_rfl) (fun _ _ _ h => h) (Or.inl ⟨by rfl, fun w hw => by have h9 := hw.1.b2.cell 0; go_simp⟩) h0 ?_
          simp only [Act.put, List.setIfInBounds_toArray, List.set_cons_zero, List.set_cons_succ]
          refine wpAnyH_ready (rs := [19]) (by kernel_rfl) (by simp) (AllReadyH.cons rfl (fun K hK => ?_) AllReadyH.nil)
          go_simp
          refine (HFr.out _ (HF8.out.bel.trans ((show Below w8.heap.size w8 w8.drew from (Below.refl _ _).drew).mono HF8.out.bel.size))).mono ?_
          rintro e w9 ⟨rfl, hb9⟩
          have hb9 := (show Below w8.heap.size w8 w8.drew from (Below.refl _ _).drew).trans hb9
          have HF9 := Lib.hid (HF8.out.on hb9)
          have HKf9 := Lib.hid (HKf.out.trans (keeps_below (H8.out.trans (hb9.mono H8.out.size))))
          have HKb9 := Lib.hid (HKb.out.trans (kp_below (b := w.heap.size + 1 + 1 + 1 + 1) (H8.out.trans (hb9.mono H8.out.size)) HWw.out))
          refine hK.out _ _ ⟨HF9.out, HZb.out.below hb9 HZb.out.lt⟩ (fun h2 => ?_)
          clear hK K h0 hb9
          refine hd_take 20 (some 56) (.bool v) rfl rfl (by kernel_rfl) (by kernel_rfl) (by kernel_rfl) (fun _ _ _ h => h) (Or.inl ⟨by rfl, fun w hw => by go_simp⟩) h2 ?_
          simp only [Act.put, List.setIfInBounds_toArray, List.set_cons_zero, List.set_cons_succ]
          refine wpAnyH_done (by kernel_rfl) ?_ _
          clear h2
          cases v
          · gi_wp2_with fail
            go_roundw
            case rel => exact ⟨k + 1, _, rfl, HLt.out, by go_num, Lib.hid (by rw [HQk.out, step_no HRr.out (fun h => by have := HV.out; rw [h.1] at this; cases this)]; exact HF9.out), HKf9, HKb9⟩
            case measure => have := HLt.out; simp [intOf]; omega
          · have c4 := HF9.out.b4.cell 0
            have f4 := HF9.out.b4.frozen 0
            gi_wp2_with fail
            clear c4 f4
            go_roundw
            case rel => exact ⟨k + 1, _, rfl, HLt.out, by go_num, Lib.hid (by rw [HQk.out, step_yes HRr.out HV.out (fun x hx => by cases hx)]; exact HF9.out.set_ (a : Nat)), Lib.hid (HKf9.out.trans ((KeepsOthers.setCell _ _ _).from _)), Lib.hid (HKb9.out.trans (KpB.set_ _ _ _))⟩
            case measure => have := HLt.out; simp [intOf]; omega
        | some x =>
          obtain ⟨q, i⟩ := x
          have HF8 : Hid (FndI w g port A n c ((i : Nat) : Int) w8) := HF8
          have hLi : L[i]? = some q := HO.out _ rfl
          have hi9 : (i : Int) < (NL : Int) := by
            have h1 := (List.getElem?_eq_some_iff.1 hLi).1
            have := HNL.out
            omega
          have HQc := Lib.hid (fun (w' : World) (hI : FndI w g port A n c ((i : Nat) : Int) w') => show w'.cell? ⟨gr, p + i * 5 + 1, none⟩ = some (.int .i64 q.pr) from by
            obtain ⟨g', o', hA, hg', _, h1, _, _, _⟩ := HSr.out i q hLi
            injection hA with hA
            injection hA with e1 e2
            subst e1 e2
            exact (hI.bel.cell (p := ⟨gr, _, none⟩) hg').trans h1)
          clear hLi
          refine region_in (S := fun w' => FndI w g port A n c ((i : Nat) : Int) w' ∧ Blk w' Z 23 (ruC ⟨al, pr, pa, po, ap⟩)) (by kernel_rfl) (fun i o hi c e => by
            match i, hi with
            | 0, hi => injection hi with hi; subst hi; cases e
            | 1, hi => injection hi with hi; subst hi; cases e
            | 2, hi => injection hi with hi; subst hi; cases e
            | 3, hi => injection hi with hi; subst hi; cases e
            | 4, hi => injection hi with hi; subst hi; cases e
            | 5, hi => injection hi with hi; subst hi; cases e
            | 6, hi => injection hi with hi; subst hi; cases e
            | 7, hi => injection hi with hi; subst hi; cases e
            | 8, hi => injection hi with hi; subst hi; cases e
            | 9, hi => injection hi with hi; subst hi; cases e
            | 10, hi => injection hi with hi; subst hi; cases e
            | 11, hi => injection hi with hi; subst hi; cases e
            | 12, hi => injection hi with hi; subst hi; cases e
            | 13, hi => injection hi with hi; subst hi; cases e
            | 14, hi => injection hi with hi; subst hi; cases e
            | 15, hi => injection hi with hi; subst hi; cases e
            | 16, hi => injection hi with hi; subst hi; cases e
            | 17, hi => injection hi with hi; subst hi; cases e
            | 18, hi => injection hi with hi; subst hi; cases e
            | 19, hi => injection hi with hi; subst hi; cases e
            | 20, hi => injection hi with hi; subst hi; cases e
            | i + 21, hi => simp at hi) (by rintro ⟨a, w, h⟩; exact h) ⟨HF8.out.on (show Below w8.heap.size w8 w8.drew from (Below.refl _ _).drew), HZb.out.below (show Below w8.heap.size w8 w8.drew from (Below.refl _ _).drew) HZb.out.lt⟩ (fun h0 => ?_)
          refine hd_take 0 (some 36) (.int .i64 (i : Nat)) rfl rfl (by kernel_rfl) (by kernel_rfl) (by kernel_rfl) (fun _ _ _ h => h) (Or.inl ⟨by rfl, fun w hw => by have h9 := hw.1.b4.cell 0; go_simp⟩) h0 ?_
          simp only [Act.put, List.setIfInBounds_toArray, List.set_cons_zero, List.set_cons_succ]
          refine hd_take 1 (some 37) (.bool false) rfl rfl (by kernel_rfl) (by kernel_rfl) (by kernel_rfl) (fun _ _ _ h => h) (Or.inl ⟨by rfl, fun w hw => by go_simp⟩) h0 ?_
          simp only [Act.put, List.setIfInBounds_toArray, List.set_cons_zero, List.set_cons_succ]
          refine hd_take 2 (some 38) (.bool false) rfl rfl (by kernel_rfl) (by kernel_rfl) (by kernel_rfl) (fun _ _ _ h => h) (Or.inl ⟨by rfl, fun w hw => by go_simp⟩) h0 ?_
          simp only [Act.put, List.setIfInBounds_toArray, List.set_cons_zero, List.set_cons_succ]
          refine hd_take 3 (some 39) (.pointer (some ⟨Z, 1, none⟩)) rfl rfl (by kernel_rfl) (by kernel_rfl) (by kernel_rfl) (fun _ _ _ h => h) (Or.inl ⟨by rfl, fun w hw => by go_simp⟩) h0 ?_
          simp only [Act.put, List.setIfInBounds_toArray, List.set_cons_zero, List.set_cons_succ]
          refine hd_take 4 (some 40) (.int .i64 pr) rfl rfl (by kernel_rfl) (by kernel_rfl) (by kernel_rfl) (fun _ _ _ h => h) (Or.inl ⟨by rfl, fun w hw => by have h9 := (ru_cells hw.2).2.1; go_simp⟩) h0 ?_
          simp only [Act.put, List.setIfInBounds_toArray, List.set_cons_zero, List.set_cons_succ]
          refine hd_take 5 (some 41) (.pointer (some ⟨g, 0, none⟩)) rfl rfl (by kernel_rfl) (by kernel_rfl) (by kernel_rfl) (fun _ _ _ h => h) (Or.inl ⟨by rfl, fun w hw => by have h9 := hw.1.b0.cell 0; go_simp⟩) h0 ?_
          simp only [Act.put, List.setIfInBounds_toArray, List.set_cons_zero, List.set_cons_succ]
          refine hd_take 6 (some 42) (.pointer (some ⟨g, 0, none⟩)) rfl rfl (by kernel_rfl) (by kernel_rfl) (by kernel_rfl) (fun _ _ _ h => h) (Or.inl ⟨by rfl, fun w hw => by go_simp⟩) h0 ?_
          simp only [Act.put, List.setIfInBounds_toArray, List.set_cons_zero, List.set_cons_succ]
          refine hd_take 7 (some 43) (.pointer (some ⟨g, 0, none⟩)) rfl rfl (by kernel_rfl) (by kernel_rfl) (by kernel_rfl) (fun _ _ _ h => h) (Or.inl ⟨by rfl, fun w hw => by go_simp⟩) h0 ?_
          simp only [Act.put, List.setIfInBounds_toArray, List.set_cons_zero, List.set_cons_succ]
          refine hd_take 8 (some 44) (.slice (some ⟨gr, p, none⟩) NL cR) rfl rfl (by kernel_rfl) (by kernel_rfl) (by kernel_rfl) (fun _ _ _ h => h) (Or.inl ⟨by rfl, fun w hw => by have h9 := HC0.out w hw.1.bel; go_simp⟩) h0 ?_
          simp only [Act.put, List.setIfInBounds_toArray, List.set_cons_zero, List.set_cons_succ]
          refine hd_take 9 (some 45) (.int .i64 (i : Nat)) rfl rfl (by kernel_rfl) (by kernel_rfl) (by kernel_rfl) (fun _ _ _ h => h) (Or.inl ⟨by rfl, fun w hw => by have h9 := hw.1.b4.cell 0; go_simp⟩) h0 ?_
          simp only [Act.put, List.setIfInBounds_toArray, List.set_cons_zero, List.set_cons_succ]
          refine hd_take 10 (some 46) (.pointer (some ⟨gr, p + i * 5, none⟩)) rfl rfl (by kernel_rfl) (by kernel_rfl) (by kernel_rfl) (fun _ _ _ h => h) (Or.inl ⟨by rfl, fun w hw => by go_simp⟩) h0 ?_
          simp only [Act.put, List.setIfInBounds_toArray, List.set_cons_zero, List.set_cons_succ]
          refine hd_take 11 (some 47) (.pointer (some ⟨gr, p + i * 5 + 1, none⟩)) rfl rfl (by kernel_rfl) (by kernel_rfl) (by kernel_rfl) (fun _ _ _ h => h) (Or.inl ⟨by rfl, fun w hw => by go_simp⟩) h0 ?_
          simp only [Act.put, List.setIfInBounds_toArray, List.set_cons_zero, List.set_cons_succ]
          refine hd_take 12 (some 48) (.int .i64 q.pr) rfl rfl (by kernel_rfl) (by kernel_rfl) (by kernel_rfl) (fun _ _ _ h => h) (Or.inl ⟨by rfl, fun w hw => by have h9 := HQc.out w hw.1; go_simp⟩) h0 ?_
          simp only [Act.put, List.setIfInBounds_toArray, List.set_cons_zero, List.set_cons_succ]
          refine hd_take 13 (some 49) (.bool (decide (q.pr < pr))) rfl rfl (by kernel_rfl) (by kernel_rfl) (by kernel_rfl) (fun _ _ _ h => h) (Or.inl ⟨by rfl, fun w hw => by go_simp⟩) h0 ?_
          simp only [Act.put, List.setIfInBounds_toArray, List.set_cons_zero, List.set_cons_succ]
          by_cases hd : q.pr < pr
          · rw [decide_eq_true hd]
            have HD := Lib.hid hd
            clear hd
            refine hd_take 14 (some 50) (.bool true) rfl rfl (by kernel_rfl) (by kernel_rfl) (by kernel_rfl) (fun _ _ _ h => h) (Or.inl ⟨by rfl, fun w hw => by go_simp⟩) h0 ?_
            simp only [Act.put, List.setIfInBounds_toArray, List.set_cons_zero, List.set_cons_succ]
            refine hd_take 15 (some 51) (.bool true) rfl rfl (by kernel_rfl) (by kernel_rfl) (by kernel_rfl) (fun _ _ _ h => h) (Or.inl ⟨by rfl, fun w hw => by go_simp⟩) h0 ?_
            simp only [Act.put, List.setIfInBounds_toArray, List.set_cons_zero, List.set_cons_succ]
            refine hd_take 16 (some 52) (.agg (ruC ⟨al, pr, pa, po, ap⟩)) rfl rfl (by kernel_rfl) (by kernel_rfl) (by kernel_rfl) (fun _ _ _ h => h) (yieldsIf_load_mid (by rfl) _ _ rfl Z 0 rfl (ruC ⟨al, pr, pa, po, ap⟩).toList _ (fun _ h => range_b h.2) undU rfl (ruU_len _)) h0 ?_
            simp only [Act.put, List.setIfInBounds_toArray, List.set_cons_zero, List.set_cons_succ]
            refine hd_take 17 (some 53) (.int .i64 port) rfl rfl (by kernel_rfl) (by kernel_rfl) (by kernel_rfl) (fun _ _ _ h => h) (Or.inl ⟨by rfl, fun w hw => by have h9 := hw.1.b1.cell 0; go_simp⟩) h0 ?_
            simp only [Act.put, List.setIfInBounds_toArray, List.set_cons_zero, List.set_cons_succ]
            refine hd_take 18 (some 54) (.slice A n c) rfl rfl (by kernel_rfl) (by kernel_rfl) (by kernel_rfl) (fun _ _ _ h => h) (Or.inl ⟨by rfl, fun w hw => by have h9 := hw.1.b2.cell 0; go_simp⟩) h0 ?_
            simp only [Act.put, List.setIfInBounds_toArray, List.set_cons_zero, List.set_cons_succ]
            refine wpAnyH_ready (rs := [19]) (by kernel_rfl) (by simp) (AllReadyH.cons rfl (fun K hK => ?_) AllReadyH.nil)
            go_simp
            refine (HFr.out _ (HF8.out.bel.trans ((show Below w8.heap.size w8 w8.drew from (Below.refl _ _).drew).mono HF8.out.bel.size))).mono ?_
            rintro e w9 ⟨rfl, hb9⟩
            have hb9 := (show Below w8.heap.size w8 w8.drew from (Below.refl _ _).drew).trans hb9
            have HF9 := Lib.hid (HF8.out.on hb9)
            have HKf9 := Lib.hid (HKf.out.trans (keeps_below (H8.out.trans (hb9.mono H8.out.size))))
            have HKb9 := Lib.hid (HKb.out.trans (kp_below (b := w.heap.size + 1 + 1 + 1 + 1) (H8.out.trans (hb9.mono H8.out.size)) HWw.out))
            refine hK.out _ _ ⟨HF9.out, HZb.out.below hb9 HZb.out.lt⟩ (fun h2 => ?_)
            clear hK K h0 hb9
            refine hd_take 20 (some 56) (.bool v) rfl rfl (by kernel_rfl) (by kernel_rfl) (by kernel_rfl) (fun _ _ _ h => h) (Or.inl ⟨by rfl, fun w hw => by go_simp⟩) h2 ?_
            simp only [Act.put, List.setIfInBounds_toArray, List.set_cons_zero, List.set_cons_succ]
            refine wpAnyH_done (by kernel_rfl) ?_ _
            clear h2
            cases v
            · gi_wp2_with fail
              go_roundw
              case rel => exact ⟨k + 1, _, rfl, HLt.out, by go_num, Lib.hid (by rw [HQk.out, step_no HRr.out (fun h => by have := HV.out; rw [h.1] at this; cases this)]; exact HF9.out), HKf9, HKb9⟩
              case measure => have := HLt.out; simp [intOf]; omega
            · have c4 := HF9.out.b4.cell 0
              have f4 := HF9.out.b4.frozen 0
              gi_wp2_with fail
              clear c4 f4
              go_roundw
              case rel => exact ⟨k + 1, _, rfl, HLt.out, by go_num, Lib.hid (by rw [HQk.out, step_yes HRr.out HV.out (fun x hx => by have e : (q, i) = x := Option.some.inj hx; rw [← e]; exact HD.out)]; exact HF9.out.set_ (a : Nat)), Lib.hid (HKf9.out.trans ((KeepsOthers.setCell _ _ _).from _)), Lib.hid (HKb9.out.trans (KpB.set_ _ _ _))⟩
              case measure => have := HLt.out; simp [intOf]; omega
          · rw [decide_eq_false hd]
            have HD := Lib.hid hd
            clear hd
            refine hd_take 14 (some 50) (.bool false) rfl rfl (by kernel_rfl) (by kernel_rfl) (by kernel_rfl) (fun _ _ _ h => h) (Or.inl ⟨by rfl, fun w hw => by go_simp⟩) h0 ?_
            simp only [Act.put, List.setIfInBounds_toArray, List.set_cons_zero, List.set_cons_succ]
            refine hd_take 15 (some 51) (.bool false) rfl rfl (by kernel_rfl) (by kernel_rfl) (by kernel_rfl) (fun _ _ _ h => h) (Or.inl ⟨by rfl, fun w hw => by go_simp⟩) h0 ?_
            simp only [Act.put, List.setIfInBounds_toArray, List.set_cons_zero, List.set_cons_succ]
            refine hd_take 16 (some 52) (undef) rfl rfl (by kernel_rfl) (by kernel_rfl) (by kernel_rfl) (fun _ _ _ h => h) (Or.inr ⟨by rfl, rfl⟩) h0 ?_
            simp only [Act.put, List.setIfInBounds_toArray, List.set_cons_zero, List.set_cons_succ]
            refine hd_take 17 (some 53) (undef) rfl rfl (by kernel_rfl) (by kernel_rfl) (by kernel_rfl) (fun _ _ _ h => h) (Or.inr ⟨by rfl, rfl⟩) h0 ?_
            simp only [Act.put, List.setIfInBounds_toArray, List.set_cons_zero, List.set_cons_succ]
            refine hd_take 18 (some 54) (undef) rfl rfl (by kernel_rfl) (by kernel_rfl) (by kernel_rfl) (fun _ _ _ h => h) (Or.inr ⟨by rfl, rfl⟩) h0 ?_
            simp only [Act.put, List.setIfInBounds_toArray, List.set_cons_zero, List.set_cons_succ]
            refine hd_take 19 (some 55) (undef) rfl rfl (by kernel_rfl) (by kernel_rfl) (by kernel_rfl) (fun _ _ _ h => h) (Or.inr ⟨by rfl, rfl⟩) h0 ?_
            simp only [Act.put, List.setIfInBounds_toArray, List.set_cons_zero, List.set_cons_succ]
            refine hd_take 20 (some 56) (.bool false) rfl rfl (by kernel_rfl) (by kernel_rfl) (by kernel_rfl) (fun _ _ _ h => h) (Or.inl ⟨by rfl, fun w hw => by go_simp⟩) h0 ?_
            simp only [Act.put, List.setIfInBounds_toArray, List.set_cons_zero, List.set_cons_succ]
            refine wpAnyH_done (by kernel_rfl) ?_ _
            clear h0
            have hb9 := (show Below w8.heap.size w8 w8.drew from (Below.refl _ _).drew)
            have HF9 := Lib.hid (HF8.out.on hb9)
            have HKf9 := Lib.hid (HKf.out.trans (keeps_below (H8.out.trans (hb9.mono H8.out.size))))
            have HKb9 := Lib.hid (HKb.out.trans (kp_below (b := w.heap.size + 1 + 1 + 1 + 1) (H8.out.trans (hb9.mono H8.out.size)) HWw.out))
            clear hb9
            gi_wp2_with fail
            go_roundw
            case rel => exact ⟨k + 1, _, rfl, HLt.out, by go_num, Lib.hid (by rw [HQk.out, step_no HRr.out (fun h => HD.out (h.2 _ rfl))]; exact HF9.out), HKf9, HKb9⟩
            case measure => have := HLt.out; simp [intOf]; omega
      · obtain rfl : k = xn := by omega
        gi_wp2_with fail
        exact ⟨HKf.out, HKb.out, Lib.hid ⟨by
          rw [HQ1.out]
          have h9 := HF.out
          rw [← HMp.out, List.take_length] at h9
          exact h9, Nat.le_trans HWz.out HKf.out.size⟩⟩
  case done =>
    rintro D ys W hD rfl hI hK
    have HF : Hid (FndI w g port A n c (encB FS) W) := Lib.hid (by
      have h9 := hI.out.1
      rw [HFl.out, ← HQ.out] at h9
      exact h9)
    have HK := Lib.hid hK
    have HDz := Lib.hid hD
    have HO := Lib.hid (show ∀ x ∈ FS, L[x.2]? = some x.1 from by rw [HQ.out]; exact go_in L C _ none (fun x hx => by cases hx))
    have c4 := HF.out.b4.cell 0
    have hc4 : W.cell? ⟨w.heap.size + 1 + 1 + 1 + 1, 0, none⟩ = some (.int .i64 (encB FS)) := c4
    clear c4 hI hK hD
    cases FS with
    | none =>
      have c4 : W.cell? ⟨w.heap.size + 1 + 1 + 1 + 1, 0, none⟩ = some (.int .i64 (-1)) := hc4
      have z0 : W.cell? ⟨w.heap.size + 1 + 1 + 1, 0, none⟩ = some (.bool false) := HF.out.b3.cell 0
      have z1 : W.cell? ⟨w.heap.size + 1 + 1 + 1, 1, none⟩ = some (.int .i64 0) := HF.out.b3.cell 1
      have z2 : W.cell? ⟨w.heap.size + 1 + 1 + 1, 2, none⟩ = some (.string ⟨#[]⟩) := HF.out.b3.cell 2
      have z3 : W.cell? ⟨w.heap.size + 1 + 1 + 1, 3, none⟩ = some (.int .i64 0) := HF.out.b3.cell 3
      have z4 : W.cell? ⟨w.heap.size + 1 + 1 + 1, 4, none⟩ = some (.string ⟨#[]⟩) := HF.out.b3.cell 4
      have f0 := HF.out.b3.frozen 0
      have f1 := HF.out.b3.frozen 1
      have f2 := HF.out.b3.frozen 2
      have f3 := HF.out.b3.frozen 3
      have f4 := HF.out.b3.frozen 4
      have e0 : W.setCell ⟨w.heap.size + 1 + 1 + 1, 0, none⟩ (.bool false) = W := cell_same HF.out.b3 rfl
      have e1 : W.setCell ⟨w.heap.size + 1 + 1 + 1, 1, none⟩ (.int .i64 0) = W := cell_same HF.out.b3 rfl
      have e2 : W.setCell ⟨w.heap.size + 1 + 1 + 1, 2, none⟩ (.string ⟨#[]⟩) = W := cell_same HF.out.b3 rfl
      have e3 : W.setCell ⟨w.heap.size + 1 + 1 + 1, 3, none⟩ (.int .i64 0) = W := cell_same HF.out.b3 rfl
      have e4 : W.setCell ⟨w.heap.size + 1 + 1 + 1, 4, none⟩ (.string ⟨#[]⟩) = W := cell_same HF.out.b3 rfl
      clear hc4
      gi_wp2_with fail
      exact retM_three rfl HF.out.b3 undU rfl infU (ruC_size _) rfl rfl rfl rfl HK.out (by have := HDz.out; have := HDz.out; have := HBb.out; have := HZ5.out; omega) ⟨rfl, HF.out.bel.trans (put_below (by have := HDz.out; have := HDz.out; have := HBb.out; have := HZ5.out; omega) _)⟩
    | some x =>
      obtain ⟨q, i⟩ := x
      have c4 : W.cell? ⟨w.heap.size + 1 + 1 + 1 + 1, 0, none⟩ = some (.int .i64 ((i : Nat) : Int)) := hc4
      have hi0 : (0 : Int) ≤ ((i : Nat) : Int) := by omega
      have hi1 : ¬ ((i : Nat) : Int) < 0 := by omega
      clear hc4
      gi_wp2_with fail
      have hLi : L[i]? = some q := HO.out _ rfl
      have hiN : i < NL := by rw [← HNL.out]; exact (List.getElem?_eq_some_iff.1 hLi).1
      have hi9 : (i : Int) < (NL : Int) := by omega
      have hq9 := HR.out q (List.mem_of_getElem? hLi)
      have HFr9 := Lib.hid (fun w' => tfresh_any q w' (by have := hq9.2.1; omega) (by have := hq9.2.2; omega))
      obtain ⟨gr, p, hA, hgr, hra⟩ := HSr.out i q hLi
      subst hA
      have hra0 : ∀ w' : World, Below w.heap.size w w' → w'.rangeAt gr (p + i * 5) (ruC q).toList := fun w' hb => RuAt.range (RuAt.below hra hgr hb)
      have HRa := Lib.hid hra0
      have hi8 : (p + i * 5) = (p + i * 5 + 0) := rfl
      have HFd := Lib.hid (HF.out.on (show Below W.heap.size W W.drew from (Below.refl _ _).drew))
      clear hi8 hra0 hra hLi hq9 c4
      refine wpIn_wide.2 (wp_norm ?_)
      refine wp_region_held_drew (S := fun w' => w'.cell? ⟨w.heap.size, 0, none⟩ = some (.pointer (some ⟨g, 0, none⟩)) ∧ w'.cell? ⟨w.heap.size + 1 + 1 + 1 + 1, 0, none⟩ = some (.int .i64 ((i : Nat) : Int)) ∧ w'.cell? ⟨g, 0, none⟩ = some (.slice (some ⟨gr, p, none⟩) NL cR) ∧ w'.rangeAt gr (p + i * 5) (ruC q).toList) (by kernel_rfl) ⟨HFd.out.b0.cell 0, HFd.out.b4.cell 0, HC0.out _ HFd.out.bel, HRa.out _ HFd.out.bel⟩ (fun h0 => ?_)
      refine hd_take 0 (some 62) (.pointer (some ⟨g, 0, none⟩)) rfl rfl (by kernel_rfl) (by kernel_rfl) (by kernel_rfl) (fun _ _ _ h => nomatch h.1) (Or.inl ⟨by rfl, fun w hw => by have h9 := hw.1; go_simp⟩) h0 ?_
      simp only [Act.put, List.setIfInBounds_toArray, List.set_cons_zero, List.set_cons_succ]
      refine hd_take 1 (some 63) (.pointer (some ⟨g, 0, none⟩)) rfl rfl (by kernel_rfl) (by kernel_rfl) (by kernel_rfl) (fun _ _ _ h => nomatch h.1) (Or.inl ⟨by rfl, fun w hw => by go_simp⟩) h0 ?_
      simp only [Act.put, List.setIfInBounds_toArray, List.set_cons_zero, List.set_cons_succ]
      refine hd_take 2 (some 64) (.pointer (some ⟨g, 0, none⟩)) rfl rfl (by kernel_rfl) (by kernel_rfl) (by kernel_rfl) (fun _ _ _ h => nomatch h.1) (Or.inl ⟨by rfl, fun w hw => by go_simp⟩) h0 ?_
      simp only [Act.put, List.setIfInBounds_toArray, List.set_cons_zero, List.set_cons_succ]
      refine hd_take 3 (some 65) (.slice (some ⟨gr, p, none⟩) NL cR) rfl rfl (by kernel_rfl) (by kernel_rfl) (by kernel_rfl) (fun _ _ _ h => nomatch h.1) (Or.inl ⟨by rfl, fun w hw => by have h9 := hw.2.2.1; go_simp⟩) h0 ?_
      simp only [Act.put, List.setIfInBounds_toArray, List.set_cons_zero, List.set_cons_succ]
      refine hd_take 4 (some 66) (.int .i64 (i : Nat)) rfl rfl (by kernel_rfl) (by kernel_rfl) (by kernel_rfl) (fun _ _ _ h => nomatch h.1) (Or.inl ⟨by rfl, fun w hw => by have h9 := hw.2.1; go_simp⟩) h0 ?_
      simp only [Act.put, List.setIfInBounds_toArray, List.set_cons_zero, List.set_cons_succ]
      refine hd_take 5 (some 67) (.pointer (some ⟨gr, p + i * 5, none⟩)) rfl rfl (by kernel_rfl) (by kernel_rfl) (by kernel_rfl) (fun _ _ _ h => nomatch h.1) (Or.inl ⟨by rfl, fun w hw => by go_simp⟩) h0 ?_
      simp only [Act.put, List.setIfInBounds_toArray, List.set_cons_zero, List.set_cons_succ]
      refine hd_take 6 (some 68) (.agg (ruC q)) rfl rfl (by kernel_rfl) (by kernel_rfl) (by kernel_rfl) (fun _ _ _ h => nomatch h.1) (yieldsIf_load_mid (by rfl) _ _ rfl gr (p + i * 5) rfl (ruC q).toList _ (fun _ h => h.2.2.2) undU rfl (ruU_len _)) h0 ?_
      simp only [Act.put, List.setIfInBounds_toArray, List.set_cons_zero, List.set_cons_succ]
      refine hd_take 8 (some 70) (.int .i64 (i : Nat)) rfl rfl (by kernel_rfl) (by kernel_rfl) (by kernel_rfl) (fun _ _ _ h => nomatch h.1) (Or.inl ⟨by rfl, fun w hw => by have h9 := hw.2.1; go_simp⟩) h0 ?_
      simp only [Act.put, List.setIfInBounds_toArray, List.set_cons_zero, List.set_cons_succ]
      refine wpAnyH_ready (rs := [7]) (by kernel_rfl) (by simp) (AllReadyH.cons rfl (fun K hK => ?_) AllReadyH.nil)
      go_simp
      refine (HFr9.out _).mono ?_
      rintro e w9 ⟨rfl, hb9⟩
      have hb9 := (show Below W.heap.size W W.drew from (Below.refl _ _).drew).trans hb9
      have HF9 := Lib.hid (HF.out.on hb9)
      have HK9 := Lib.hid ((hb9.block D (Array.getElem?_eq_some_iff.1 HK.out).1).trans HK.out)
      refine hK.out _ _ ⟨HF9.out.b0.cell 0, HF9.out.b4.cell 0, HC0.out _ HF9.out.bel, HRa.out _ HF9.out.bel⟩ (fun h2 => ?_)
      clear hK K h0 hb9
      obtain ⟨w3, hw3⟩ : ∃ w3, w9.setRow (w.heap.size + 1 + 1 + 1) (ruC q) = w3 := ⟨_, rfl⟩
      have hf3 : ∀ k, k ≠ w.heap.size + 1 + 1 + 1 → w3.heap[k]? = w9.heap[k]? := fun k hk => by rw [← hw3]; exact setRow_far hk _
      have hb3 : Blk w3 (w.heap.size + 1 + 1 + 1) 23 (ruC q) := by rw [← hw3]; exact setRow_blk HF9.out.b3
      have hl3 : Below w.heap.size w w3 := by rw [← hw3]; exact setRow_below HF9.out.bel HF9.out.b3 (by omega) _
      have hD3 : w.heap.size + 1 + 1 + 1 ≠ D := by have := HDz.out; have := HBb.out; have := HZ5.out; omega
      have H3 := Lib.hid (show w3.cell? ⟨w.heap.size, 0, none⟩ = some (.pointer (some ⟨g, 0, none⟩)) ∧ w3.cell? ⟨w.heap.size + 1 + 1 + 1 + 1, 0, none⟩ = some (.int .i64 ((i : Nat) : Int)) ∧ w3.cell? ⟨g, 0, none⟩ = some (.slice (some ⟨gr, p, none⟩) NL cR) ∧ w3.rangeAt gr (p + i * 5) (ruC q).toList from
        ⟨Blk.cell (show Blk w3 w.heap.size _ _ from (hf3 _ (by omega)).trans HF9.out.b0) 0, Blk.cell (show Blk w3 (w.heap.size + 1 + 1 + 1 + 1) _ _ from (hf3 _ (by omega)).trans HF9.out.b4) 0, HC0.out _ hl3, HRa.out _ hl3⟩)
      have HB3 := Lib.hid hb3
      have HL3 := Lib.hid hl3
      have HK3 := Lib.hid ((hf3 D (Ne.symm hD3)).trans HK9.out)
      have HD3 := Lib.hid hD3
      have HW3 := Lib.hid hw3
      clear hw3 hf3 hb3 hl3 hD3
      refine wpAnyH_ready (rs := [9]) (by kernel_rfl) (by simp) (ready_st (C := ruC Ru.zero) (D := ruC q) (g := w.heap.size + 1 + 1 + 1) rfl rfl rfl (by go_simp) (by go_simp) HF9.out.b3 infU (ruC_size _) (ruC_size _) (ruC_one _) (by rw [HW3.out]; exact H3.out) (fun h3 => ?_) AllReadyH.nil)
      rw [HW3.out] at h3 ⊢
      refine hd_take 10 (some 9) (.int .i64 (i : Nat)) rfl rfl (by kernel_rfl) (by kernel_rfl) (by kernel_rfl) (fun _ _ _ h => nomatch h.1) (Or.inl ⟨by rfl, fun w hw => by go_simp⟩) h3 ?_
      simp only [Act.put, List.setIfInBounds_toArray, List.set_cons_zero, List.set_cons_succ]
      refine hd_take 11 (some 10) (.bool true) rfl rfl (by kernel_rfl) (by kernel_rfl) (by kernel_rfl) (fun _ _ _ h => nomatch h.1) (Or.inl ⟨by rfl, fun w hw => by go_simp⟩) h3 ?_
      simp only [Act.put, List.setIfInBounds_toArray, List.set_cons_zero, List.set_cons_succ]
      refine wpAnyH_done (by kernel_rfl) ⟨rfl, ?_⟩ _
      clear h3 h2
      gi_wp2_with fail
      exact retM_three rfl HB3.out undU rfl infU (ruC_size _) rfl rfl rfl rfl HK3.out HD3.out ⟨rfl, HL3.out.trans (put_below (by have := HDz.out; have := HBb.out; have := HZ5.out; omega) _)⟩
end Go.Proofs.YtlpondbcnfaggaaGreatDoor.Tr
