/-
 A row of extensions that came in, cut in two with one more between: as it lies in memory, and what is seen of it. Plain lemmas, no condition.
-/
import Derived.Test.YthfknndjdfofgaaGreatDoorR08
import Derived.Test.YthfknndjdfofgaaGreatDoorR20
import Derived.Test.YthfknndjdfofgaaGreatDoorR05
import Derived.Test.YthfknndjdfofgaaGreatDoorR15
import Derived.Test.YthfknndjdfofgaaGreatDoorR41
import Derived.Test.YthfknndjdfofgaaGreatDoorR30
import Derived.Test.YthfknndjdfofgaaGreatDoorR29
namespace Go.Proofs.YthfknndjdfofgaaGreatDoor.Ex
open Go.RowKit Go.Proofs.YthfknndjdfofgaaGreatDoor.Wd Go.Proofs.YthfknndjdfofgaaGreatDoor.Be Go.Proofs.YthfknndjdfofgaaGreatDoor.He Go.Proofs.YthfknndjdfofgaaGreatDoor.Ro

def elX : El Xt := ⟨70, 2, fun x => [.int .i64 x.kind, .slice x.A x.n x.c]⟩
theorem fineX : elX.Fine 66 (.agg #[.int .i64 0, .slice none 0 0]) 32 := ⟨Tryz.underlying66, by kernel_rfl, rfl, Nat.two_pos, fun _ => rfl, fun x v h => by
 simp [elX] at h; rcases h with rfl | rfl <;> rfl⟩
theorem srcX_of {w : World} {A : Option Addr} {l : List Xt} (h : SrcE w elX A l) (hok : ∀ x ∈ l, x.Ok w) : SrcX w A l := fun i x hx => by
 obtain ⟨g, o, hA, hg, hc⟩ := h i x hx
 exact ⟨hok x (List.mem_of_getElem? hx), g, o, hA, hg, hc 0 _ rfl, by have := hc 1 _ rfl; rwa [show o + (i * elX.n + 1) = o + i * 2 + 1 by show o + (i * 2 + 1) = _; omega] at this⟩
theorem SrcX.oks {w : World} {A : Option Addr} {l : List Xt} (h : SrcX w A l) : ∀ x ∈ l, x.Ok w := fun x hx => by
 obtain ⟨i, hi⟩ := List.mem_iff_getElem?.1 hx
 exact (h i x hi).1
theorem C_ext {H : Hv} (h : H.rnd.length = 32) (A : Option Addr) (c : Nat) (l : List Xt) : H.C.setIfInBounds 37 (.slice A l.length c) = ({ H with xA := A, xc := c, xs := l } : Hv).C := by
 have e : H.C.setIfInBounds 37 (.slice A l.length c) = (H.L.set 37 (.slice A l.length c)).toArray := by simp [Hv.C]
 rw [e, show 37 = (32 + 4) + 1 by omega, Hv.L, List.set_cons_succ, List.set_append_right _ _ (by rw [cellsOf_length]; omega), cellsOf_length, h, show 32 + 4 - 32 = 4 by omega]
 rfl

end Go.Proofs.YthfknndjdfofgaaGreatDoor.Ex

/-
 Contracts over this seat's translation: slices.Clone at strings and at numbers; append of whatever row onto a row of the call's own. No condition.
-/
namespace Go.Proofs.YthfknndjdfofgaaGreatDoor.Ro
open Go.RowKit Go.Proofs.YthfknndjdfofgaaGreatDoor.Wd Go.Proofs.YthfknndjdfofgaaGreatDoor.He

section
variable {α : Type} {e : El α} {sl : TypeId} {z : Value} {bytes : Nat}
theorem srcE_cells (F : e.Fine sl z bytes) {w : World} {g o : Nat} {m : List α} (hs : SrcE w e (some ⟨g, o, none⟩) m) : ∀ (j : Nat) (u : Value), (flat e m)[j]? = some u → w.cell? ((⟨g, o, none⟩ : Addr).add j) = some u := by
 intro j u hu
 have hj := (List.getElem?_eq_some_iff.1 hu).1
 rw [flat_len F] at hj
 have hp := F.pos
 have hi' : j / e.n < m.length := (Nat.div_lt_iff_lt_mul hp).2 hj
 have hd := Nat.div_add_mod j e.n
 have hr := Nat.mod_lt j hp
 obtain ⟨x, hx⟩ : ∃ x, m[j / e.n]? = some x := ⟨_, List.getElem?_eq_getElem hi'⟩
 obtain ⟨g', o', hA, _, hc⟩ := hs _ x hx
 injection hA with hA
 injection hA with h1 h2
 subst h1 h2
 have hjl : j % e.n < (e.c x).length := by rw [F.len]; exact hr
 have h1 := hc (j % e.n) _ (List.getElem?_eq_getElem hjl)
 have h2 := flat_at F m _ x hx (j % e.n) _ (List.getElem?_eq_getElem hjl)
 have e1 : j / e.n * e.n + j % e.n = j := by rw [Nat.mul_comm]; exact hd
 rw [e1] at h1 h2
 rw [h2] at hu
 injection hu with hu
 rw [add_flat, h1, hu]
theorem wpList_appA (F : e.Fine sl z bytes) {ops : Array Oper} {rest : List Oper} {o : Oper} {a : Act} {w : World} {Q : Exit → Act → World → Prop} (hgd : o.guard = none) (s x : Operand)
   (ho : o.op = .call { callee := .builtin .append, args := #[s, x], argTypes := #[sl, sl] })
   (B : Nat) (v : Value) (l : List α) (hs : a.eval s = v) (hown : OwnE w e B v l) (g off n c : Nat) (m : List α) (hx : a.eval x = .slice (some ⟨g, off, none⟩) n c) (hn : n = m.length) (hsrc : SrcE w e (some ⟨g, off, none⟩) m)
   (hlen : l.length + m.length ≤ 4294967296) (hby : bytes ≤ 32768) (hB : B ≤ w.heap.size)
   (h : ∀ v' w', Hid (OwnE w' e B v' (l ++ m)) → Hid (w.grownBy w' v.ownBlock) → wpList Tryz.prog ops Q rest (a.put o.dst v') w') : wpList Tryz.prog ops Q (o :: rest) a w := by
 subst hn
 obtain ⟨i0, hi, hz0, hz1, hz2⟩ := info_parts F.info
 have hb2 : (l.length + m.length) * bytes ≤ 140737488355328 := by
   have := Nat.mul_le_mul hlen hby
   omega
 obtain ⟨v', w', hrun, h2, h3, _, _⟩ := run_append_own_at (P := Tryz.prog) w B sl o.type e.ty i0 z e.n bytes F.und hi hz0 hz1 hz2 F.zs F.pos v l.length (flat e l) hown ⟨g, off, none⟩ m.length c (flat e m) (flat_len F m) (srcE_cells F hsrc) (flat_ones F m) (by unfold maxLen; omega) hb2 hB
 have h2' : OwnE w' e B v' (l ++ m) := by
   unfold OwnE
   rw [List.length_append, flat_app]
   exact h2
 refine wpList_plain hgd fun K hK => ?_
 unfold Oper.wp execOp
 simp only [ho, resolve, invoke, builtin, Sem.run_bind, Sem.run_pure, Result.andThen_ok, List.map_toArray, List.map_cons, List.map_nil, hs, hx, hrun]
 exact hK _ _ (h v' w' (Lib.hid h2') (Lib.hid h3))
theorem ownE_empty (e : El α) (w : World) : OwnE (w.alloc (.cells #[] e.ty)) e w.heap.size (.slice (some ⟨w.heap.size, 0, none⟩) 0 0) [] :=
 ⟨by simp [flat], .inr ⟨w.heap.size, 0, #[], rfl, Nat.le_refl _, Blk.new w e.ty #[], Nat.le_refl _, Nat.zero_le _, by simp, by simp [flat]⟩⟩
end

set_option maxHeartbeats 1000000 in
theorem cloneS_any (B : Nat) (v : Value) (l : List (List UInt8)) (w : World) (hs : OwnE w elS B v l) (hn : l.length ≤ 65535) :
   Calls Tryz.prog 52 #[v] w fun e w' => ∃ v', e = .returned v' ∧ OwnE w' elS w.heap.size v' l ∧ Below w.heap.size w w' := by
 have qT : ∀ (w : World) (a : Option Addr) (n c n' c' : Nat), (binOp .eql 26 (.slice a n c) (.slice none n' c')).run Tryz.prog w = .ok (.bool a.isNone) w := fun w a n c n' c' => Lib.run_eql_slice_nil w _ _ a n c n' c' fineS.und
 rcases hs.row with ⟨rfl, rfl⟩ | ⟨g, c, cur, rfl, -, -, -, hm, -, -⟩
 · clear hs
   go_enter Tryz.func52, Tryz.ntmps52
   go_wp2_with fail
   go_ret
   exact ⟨_, rfl, OwnE.nil _ _ _, Below.refl _ _⟩
 · obtain ⟨A, c', e1, _, _, hsrc⟩ := hs.src fineS
   injection e1 with e1 _ _
   rw [← e1] at hsrc
   have HS := Lib.hid (hsrc.below ((Below.refl w.heap.size w).alloc (Nat.le_refl _) (.cells #[] 9)))
   have HB := Lib.hid (show Below w.heap.size w (w.alloc (.cells #[] 9)) from (Below.refl _ _).alloc (Nat.le_refl _) _)
   have HO := Lib.hid (ownE_empty elS w)
   obtain ⟨n, hnl⟩ : ∃ n, l.length = n := ⟨_, rfl⟩
   have HN := Lib.hid hnl
   rw [hnl] at hn ⊢
   have hm9 : c ≤ 9223372036854775807 := hm
   clear hs hsrc e1 hnl hm
   go_enter Tryz.func52, Tryz.ntmps52
   go_wp2_with (at_builtin; refine wpList_appA fineS rfl (.tmp 5) (.tmp 6) rfl w.heap.size _ [] rfl HO.out g 0 n c l rfl HN.out.symm HS.out (by rw [List.length_nil, HN.out]; omega) (by decide) (by simp) ?_; intro v2 w2 HO2 hb2)
   rw [List.nil_append] at HO2
   go_ret
   exact ⟨_, rfl, HO2.out, HB.out.grown hb2.out HB.out.size (fun q hq => by have h := (Option.some.inj hq : w.heap.size = q); omega)⟩

set_option maxHeartbeats 1000000 in
theorem cloneI_any (B : Nat) (v : Value) (l : List Int) (w : World) (hs : OwnE w elI B v l) (hn : l.length ≤ 65535) :
   Calls Tryz.prog 53 #[v] w fun e w' => ∃ v', e = .returned v' ∧ OwnE w' elI w.heap.size v' l ∧ Below w.heap.size w w' := by
 have qT : ∀ (w : World) (a : Option Addr) (n c n' c' : Nat), (binOp .eql 27 (.slice a n c) (.slice none n' c')).run Tryz.prog w = .ok (.bool a.isNone) w := fun w a n c n' c' => Lib.run_eql_slice_nil w _ _ a n c n' c' fineI.und
 rcases hs.row with ⟨rfl, rfl⟩ | ⟨g, c, cur, rfl, -, -, -, hm, -, -⟩
 · clear hs
   go_enter Tryz.func53, Tryz.ntmps53
   go_wp2_with fail
   go_ret
   exact ⟨_, rfl, OwnE.nil _ _ _, Below.refl _ _⟩
 · obtain ⟨A, c', e1, _, _, hsrc⟩ := hs.src fineI
   injection e1 with e1 _ _
   rw [← e1] at hsrc
   have HS := Lib.hid (hsrc.below ((Below.refl w.heap.size w).alloc (Nat.le_refl _) (.cells #[] 3)))
   have HB := Lib.hid (show Below w.heap.size w (w.alloc (.cells #[] 3)) from (Below.refl _ _).alloc (Nat.le_refl _) _)
   have HO := Lib.hid (ownE_empty elI w)
   obtain ⟨n, hnl⟩ : ∃ n, l.length = n := ⟨_, rfl⟩
   have HN := Lib.hid hnl
   rw [hnl] at hn ⊢
   have hm9 : c ≤ 9223372036854775807 := hm
   clear hs hsrc e1 hnl hm
   go_enter Tryz.func53, Tryz.ntmps53
   go_wp2_with (at_builtin; refine wpList_appA fineI rfl (.tmp 5) (.tmp 6) rfl w.heap.size _ [] rfl HO.out g 0 n c l rfl HN.out.symm HS.out (by rw [List.length_nil, HN.out]; omega) (by decide) (by simp) ?_; intro v2 w2 HO2 hb2)
   rw [List.nil_append] at HO2
   go_ret
   exact ⟨_, rfl, HO2.out, HB.out.grown hb2.out HB.out.size (fun q hq => by have h := (Option.some.inj hq : w.heap.size = q); omega)⟩
end Go.Proofs.YthfknndjdfofgaaGreatDoor.Ro

/-
 Contract of package tlspeek's fresh over this seat's translation: the same verdict, its rows in new memory.
-/
namespace Go.Proofs.YthfknndjdfofgaaGreatDoor.Tp
open Go.RowKit Go.Proofs.YthfknndjdfofgaaGreatDoor.Wd

theorem set_same {cs : Array Value} {i : Nat} {v : Value} (hv : cs[i]? = some v) : cs.setIfInBounds i v = cs := by
 apply Array.ext_getElem?
 intro j
 rw [Array.getElem?_setIfInBounds]
 obtain ⟨hi, he⟩ := Array.getElem?_eq_some_iff.1 hv
 split
 · rename_i e
   subst e
   rw [hv]
   first | done | rw [if_pos hi]
 · rfl
theorem cell_same {w : World} {g t i : Nat} {cs : Array Value} {v : Value} (h : Blk w g t cs) (hv : cs[i]? = some v) : w.setCell ⟨g, i, none⟩ v = w := by
 have hh : ∀ f : Obj → Obj, f (.cells cs t (0, 0)) = .cells cs t (0, 0) → w.heap.modify g f = w.heap := by
   intro f hf
   apply Array.ext_getElem?
   intro j
   rw [Array.getElem?_modify]
   split
   · rename_i e
     subst e
     rw [h.heap]
     show some (f _) = _
     rw [hf]
   · rfl
 unfold World.setCell
 rw [hh _ (by show Obj.cells (if (none : Option _).isSome then cs else cs.setIfInBounds i v) t (0, 0) = _; rw [if_neg (by simp), set_same hv])]
theorem vC_alpn (z u r : Int) (H : ByteArray) (s : Ex.Sn) (va vv v : Value) : (vC z 1 u r H s va vv).setIfInBounds 8 v = vC z 1 u r H s v vv := by simp [vC]
theorem vC_vers (z u r : Int) (H : ByteArray) (s : Ex.Sn) (va vv v : Value) : (vC z 1 u r H s va vv).setIfInBounds 9 v = vC z 1 u r H s va v := by simp [vC]
theorem only_at (w : World) (g i : Nat) (v : Value) : w.grownBy (w.setCell ⟨g, i, none⟩ v) (some g) := only_setCell (p := ⟨g, i, none⟩) (only_refl w _) (.inl rfl) _
structure FrAt (w : World) (G : Nat) (z u r : Int) (H : ByteArray) (s : Ex.Sn) (va vv : Value) (B2 : Nat) (wr : World) : Prop where
 vb : Blk wr G 31 (vC z 1 u r H s va vv)
 rb : Blk wr (G + 1) 31 #[Value.int .i64 0, .int .i64 0, .int .i64 0, .int .i64 0, .string ⟨#[]⟩, .int .i64 0, .bool false, .string ⟨#[]⟩, .slice none 0 0, .slice none 0 0, .bool false]
 al : Ex.RelP wr G va s.alpn
 ve : Ex.RelV wr B2 vv s.vers
 bel : Below G w wr
theorem FrAt.below {w wr w' : World} {G : Nat} {z u r : Int} {H : ByteArray} {s : Ex.Sn} {va vv : Value} {B2 : Nat} (h : FrAt w G z u r H s va vv B2 wr) (hb : Below wr.heap.size wr w') : FrAt w G z u r H s va vv B2 w' :=
 ⟨h.vb.below hb h.vb.lt, h.rb.below hb h.rb.lt, h.al.below hb, h.ve.below hb, h.bel.trans (hb.mono (by have := h.vb.lt; omega))⟩

set_option linter.unusedSimpArgs false in
set_option maxRecDepth 100000 in
set_option maxHeartbeats 8000000 in
theorem fresh_any (z u r : Int) (H : ByteArray) (s : Ex.Sn) (va vv : Value) (B1 B2 : Nat) (w : World) (hH : H.size ≤ 255) (hF : s.name.length ≤ 255 ∧ ∀ x ∈ s.alpn, x.length ≤ 255) (h1 : Ex.RelP w B1 va s.alpn) (h2 : Ex.RelV w B2 vv s.vers) :
   Calls Tryz.prog 28 #[.agg (vC z 1 u r H s va vv)] w fun e w' => ∃ va' vv', e = .returned (.agg (vC z 1 u r H s va' vv')) ∧ Ex.RelP w' w.heap.size va' s.alpn ∧ Ex.RelV w' w.heap.size vv' s.vers ∧ Below w.heap.size w w' := by
 have HB0 : Hid (Below w.heap.size w ((w.alloc (.cells (vC z 1 u r H s va vv) 31)).alloc (.cells #[Value.int .i64 0, .int .i64 0, .int .i64 0, .int .i64 0, .string ⟨#[]⟩, .int .i64 0, .bool false, .string ⟨#[]⟩, .slice none 0 0, .slice none 0 0, .bool false] 31))) := Lib.hid (((Below.refl _ _).alloc (Nat.le_refl _) _).alloc (by rw [He.alloc_size]; omega) _)
 have HK1 : Hid (Blk ((w.alloc (.cells (vC z 1 u r H s va vv) 31)).alloc (.cells #[Value.int .i64 0, .int .i64 0, .int .i64 0, .int .i64 0, .string ⟨#[]⟩, .int .i64 0, .bool false, .string ⟨#[]⟩, .slice none 0 0, .slice none 0 0, .bool false] 31)) w.heap.size 31 (vC z 1 u r H s va vv)) := Lib.hid ((Blk.new w _ _).alloc _)
 have HK2 : Hid (Blk ((w.alloc (.cells (vC z 1 u r H s va vv) 31)).alloc (.cells #[Value.int .i64 0, .int .i64 0, .int .i64 0, .int .i64 0, .string ⟨#[]⟩, .int .i64 0, .bool false, .string ⟨#[]⟩, .slice none 0 0, .slice none 0 0, .bool false] 31)) (w.heap.size + 1) 31 #[Value.int .i64 0, .int .i64 0, .int .i64 0, .int .i64 0, .string ⟨#[]⟩, .int .i64 0, .bool false, .string ⟨#[]⟩, .slice none 0 0, .slice none 0 0, .bool false]) := Lib.hid (He.blk_at _ _ _ _ _ (by rw [He.alloc_size]) rfl)
 have H1 := Lib.hid (h1.below HB0.out)
 have H2 := Lib.hid (h2.below HB0.out)
 have HFn := Lib.hid hF.1
 have HFa := Lib.hid hF.2
 have HHs := Lib.hid hH
 obtain ⟨A1, c1, rfl⟩ := Ro.OwnE.form h1.1
 obtain ⟨A2, c2, rfl⟩ := Ro.OwnE.form h2.1
 clear h1 h2 hF hH
 go_enter Tryz.func28, Tryz.ntmps28
 go_upto_region 1 with fail
 generalize (w.alloc (.cells (vC z 1 u r H s (.slice A1 s.alpn.length c1) (.slice A2 s.vers.length c2)) 31)).alloc (.cells #[Value.int .i64 0, .int .i64 0, .int .i64 0, .int .i64 0, .string ⟨#[]⟩, .int .i64 0, .bool false, .string ⟨#[]⟩, .slice none 0 0, .slice none 0 0, .bool false] 31) = w1 at *
 obtain ⟨G, hG⟩ : ∃ G, w.heap.size = G := ⟨_, rfl⟩
 have HG := Lib.hid hG
 rw [hG] at HK1 HK2 HB0
 rw [hG]
 clear hG
 have c4 : w1.cell? ⟨G, 4, none⟩ = some (.string H) := by rw [HK1.out.cell]; rfl
 have f4 := HK1.out.frozen 4
 go_wp2_with fail
 refine (Asc.clone_any H w1 (by have := HHs.out; omega)).mono ?_
 rintro e w2 ⟨rfl, hb⟩
 have HV2 := Lib.hid (HK1.out.below hb HK1.out.lt)
 have HR2 := Lib.hid (HK2.out.below hb HK2.out.lt)
 have HA2 := Lib.hid (H1.out.below hb)
 have HE2 := Lib.hid (H2.out.below hb)
 have HB2 := Lib.hid (HB0.out.trans (hb.mono (by have := HK1.out.lt; omega)))
 clear hb c4 f4 HK1 HK2 H1 H2 HB0
 have f4 := HV2.out.frozen 4
 have c4 : w2.cell? ⟨G, 4, none⟩ = some (.string H) := by rw [HV2.out.cell]; rfl
 go_upto_region 2 with fail
 rw [cell_same (i := 4) (v := .string H) HV2.out rfl]
 clear c4 f4
 have c7 : w2.cell? ⟨G, 7, none⟩ = some (.string (str8 s.name)) := by rw [HV2.out.cell]; rfl
 have hz : (str8 s.name).size ≤ 140737488355328 := by show s.name.toArray.size ≤ _; rw [List.size_toArray]; exact Nat.le_trans HFn.out (by decide)
 go_wp2_with fail
 refine (Asc.clone_any (str8 s.name) w2 hz).mono ?_
 rintro e w3 ⟨rfl, hb⟩
 have HV3 := Lib.hid (HV2.out.below hb HV2.out.lt)
 have HR3 := Lib.hid (HR2.out.below hb HR2.out.lt)
 have HA3 := Lib.hid (HA2.out.below hb)
 have HE3 := Lib.hid (HE2.out.below hb)
 have HB3 := Lib.hid (HB2.out.trans (hb.mono (by have := HV2.out.lt; omega)))
 clear hb c7 HV2 HR2 HA2 HE2 HB2 hz
 have f7 := HV3.out.frozen 7
 have c7 : w3.cell? ⟨G, 7, none⟩ = some (.string (str8 s.name)) := by rw [HV3.out.cell]; rfl
 go_upto_region 3 with fail
 rw [cell_same (i := 7) (v := .string (str8 s.name)) HV3.out rfl]
 clear c7 f7
 have c8 : w3.cell? ⟨G, 8, none⟩ = some (.slice A1 s.alpn.length c1) := by rw [HV3.out.cell]; rfl
 go_wp2_with fail
 refine (Ro.cloneS_any B1 (.slice A1 s.alpn.length c1) s.alpn w3 HA3.out.1 HA3.out.2).mono ?_
 rintro e w4 ⟨v4, rfl, ho, hb⟩
 have HV4 := Lib.hid (HV3.out.below hb HV3.out.lt)
 have HR4 := Lib.hid (HR3.out.below hb HR3.out.lt)
 have HE4 := Lib.hid (HE3.out.below hb)
 have HB4 := Lib.hid (HB3.out.trans (hb.mono (by have := HV3.out.lt; omega)))
 have HO4 := Lib.hid (show Ex.RelP w4 G v4 s.alpn from ⟨ho.lower (by have := HV3.out.lt; omega), HA3.out.2⟩)
 clear hb ho c8 HV3 HR3 HA3 HE3 HB3
 have f8 := HV4.out.frozen 8
 have c8 : w4.cell? ⟨G, 8, none⟩ = some (.slice A1 s.alpn.length c1) := by rw [HV4.out.cell]; rfl
 obtain ⟨A3, c3, rfl⟩ := Ro.OwnE.form HO4.out.1
 have hne : 31 ≠ 9 := by decide
 have hni : 31 ≠ 3 := by decide
 go_upto_region 4 with fail
 have hk := HV4.out.set_ 8 (.slice A3 s.alpn.length c3)
 rw [vC_alpn] at hk
 have HF0 : Hid (FrAt w G z u r H s (.slice A3 s.alpn.length c3) (.slice A2 s.vers.length c2) B2 (w4.setCell ⟨G, 8, none⟩ (.slice A3 s.alpn.length c3))) := Lib.hid ⟨hk, HR4.out.far (by show ¬ G + 1 = G; omega) _, HO4.out.off (only_at _ _ _ _) (He.OffT.of_blk HV4.out (fun e => hne e)), HE4.out.off (only_at _ _ _ _) (He.OffT.of_blk HV4.out (fun e => hni e)), HB4.out.grown (only_at _ _ _ _) (by have := HV4.out.lt; omega) (fun j hj => by injection hj with hj; omega)⟩
 clear hk c8 f8 HV4 HR4 HE4 HB4 HO4
 generalize w4.setCell ⟨G, 8, none⟩ (.slice A3 s.alpn.length c3) = w5 at *
 have c8 : w5.cell? ⟨G, 8, none⟩ = some (.slice A3 s.alpn.length c3) := by rw [HF0.out.vb.cell]; rfl
 obtain ⟨n, hn⟩ : ∃ n, s.alpn.length = n := ⟨_, rfl⟩
 have HN := Lib.hid hn
 have hn65 : n ≤ 65535 := by rw [← hn]; exact HF0.out.al.2
 rw [hn] at c8 HF0
 clear hn
 go_wp2_with fail
 go_loopw [25] (fun i wr => ∃ k : Nat, k ≤ n ∧ i = .int .i64 (k : Int) ∧ Hid (FrAt w G z u r H s (.slice A3 n c3) (.slice A2 s.vers.length c2) B2 wr)) (fun i _ => n - (intOf i).toNat)
 case atStart => exact ⟨0, Nat.zero_le _, rfl, HF0⟩
 case round =>
   clear HF0 c8
   obtain ⟨k, hk, rfl, HF⟩ := hrel
   by_cases hlt : k < n
   · have hki : (k : Int) < (n : Int) := by omega
     obtain ⟨x, hx⟩ : ∃ x, s.alpn[k]? = some x := ⟨_, List.getElem?_eq_getElem (by have := HN.out; omega)⟩
     have hxl : (str8 x).size ≤ 140737488355328 := by show x.toArray.size ≤ _; rw [List.size_toArray]; exact Nat.le_trans (HFa.out x (List.mem_of_getElem? hx)) (by decide)
     rcases HF.out.al.1.row with ⟨e0, e1⟩ | ⟨g, cap, cur, e0, hg, hblk, hcap, hmx, hsz, htk⟩
     · exact absurd (by rw [e1] at hx; exact hx) (by simp)
     injection e0 with e0 e1 e2
     subst e0 e2
     have hcur : cur[k]? = some (.string (str8 x)) := by
       have h := Ro.flat_at Ro.fineS s.alpn k x hx 0 _ rfl
       rw [← htk, List.getElem?_take] at h
       split at h
       · simpa [Ro.elS] using h
       · cases h
     have hcell : wr.cell? ⟨g, k, none⟩ = some (.string (str8 x)) := by rw [hblk.cell]; exact hcur
     have HBk := Lib.hid hblk
     have HCur := Lib.hid hcur
     have c8 : wr.cell? ⟨G, 8, none⟩ = some (.slice (some ⟨g, 0, none⟩) n c3) := by rw [HF.out.vb.cell]; rfl
     have HXl := Lib.hid hxl
     obtain ⟨X, hX⟩ : ∃ X, str8 x = X := ⟨_, rfl⟩
     rw [hX] at hcell HCur HXl
     clear hxl hcur hblk hsz htk e1 hx hX hmx hcap
     go_upto_region 7 with fail
     go_region_held (fun w' => w'.cell? ⟨G, 8, none⟩ = some (.slice (some ⟨g, 0, none⟩) n c3)) (first | exact c8 | exact d8 | exact e8)
       (first | (go_at_call 51; refine (Asc.clone_any X _ HXl.out).mono ?_; rintro e w6 ⟨rfl, hb⟩; have hb' : Below wr.heap.size wr w6 := (Below.refl _ _).drew.trans hb; have HF6 := Lib.hid (HF.out.below hb'); have HB6 := Lib.hid (HBk.out.below hb' HBk.out.lt); have d8 : w6.cell? ⟨G, 8, none⟩ = some (.slice (some ⟨g, 0, none⟩) n c3) := (by rw [HF6.out.vb.cell]; rfl); have fg := HB6.out.frozen k; have cg : w6.cell? ⟨g, k, none⟩ = some (.string X) := (by rw [HB6.out.cell]; exact HCur.out); have e8 : (w6.setCell ⟨g, k, none⟩ (.string X)).cell? ⟨G, 8, none⟩ = some (.slice (some ⟨g, 0, none⟩) n c3) := (by rw [cell_same (i := k) (v := .string X) HB6.out HCur.out]; exact d8); clear hb hb'))
     all_goals
       rw [cell_same (i := k) (v := .string X) HB6.out HCur.out]
       clear c8 d8 e8 fg cg hcell HF HBk
       go_wp2_with fail
       go_roundw
       case rel => exact ⟨k + 1, hlt, by go_num, HF6⟩
       case measure => simp [intOf]; omega
   · obtain rfl : k = n := by omega
     have c9 : wr.cell? ⟨G, 9, none⟩ = some (.slice A2 s.vers.length c2) := by rw [HF.out.vb.cell]; rfl
     go_wp2_with fail
     refine (Ro.cloneI_any B2 (.slice A2 s.vers.length c2) s.vers wr HF.out.ve.1 HF.out.ve.2).mono ?_
     rintro e w7 ⟨v7, rfl, ho, hb⟩
     have HV7 := Lib.hid (HF.out.vb.below hb HF.out.vb.lt)
     have HR7 := Lib.hid (HF.out.rb.below hb HF.out.rb.lt)
     have HA7 := Lib.hid (HF.out.al.below hb)
     have HB7 := Lib.hid (HF.out.bel.trans (hb.mono (by have := HF.out.vb.lt; omega)))
     have HO7 := Lib.hid (show Ex.RelV w7 G v7 s.vers from ⟨ho.lower (by have := HF.out.vb.lt; omega), HF.out.ve.2⟩)
     clear hb ho c9 HF
     have f9 := HV7.out.frozen 9
     have c9 : w7.cell? ⟨G, 9, none⟩ = some (.slice A2 s.vers.length c2) := by rw [HV7.out.cell]; rfl
     obtain ⟨A5, c5, rfl⟩ := Ro.OwnE.form HO7.out.1
     go_upto_region 10 with fail
     have hk9 := HV7.out.set_ 9 (.slice A5 s.vers.length c5)
     rw [vC_vers] at hk9
     have HV8 := Lib.hid hk9
     have HR8 := Lib.hid (HR7.out.far (p := ⟨G, 9, none⟩) (by show ¬ G + 1 = G; omega) (.slice A5 s.vers.length c5))
     have HA8 := Lib.hid (HA7.out.off (only_at w7 G 9 (.slice A5 s.vers.length c5)) (He.OffT.of_blk HV7.out (fun e => hne e)))
     have HO8 := Lib.hid (HO7.out.off (only_at w7 G 9 (.slice A5 s.vers.length c5)) (He.OffT.of_blk HV7.out (fun e => hni e)))
     have HB8 : Hid (Below G w (w7.setCell ⟨G, 9, none⟩ (.slice A5 s.vers.length c5))) := Lib.hid (HB7.out.grown (only_at _ _ _ _) (by have := HV7.out.lt; omega) (fun j hj => by injection hj with hj; omega))
     clear hk9 c9 f9 HV7 HR7 HA7 HO7 HB7
     generalize w7.setCell ⟨G, 9, none⟩ (.slice A5 s.vers.length c5) = w8 at *
     have k8 := HV8.out
     go_wp2_with (first | (refine He.go_ld 31 k8 undV rfl infV rfl rfl rfl rfl ?_) | (refine He.go_st 31 HR8.out infV rfl (vC_size _ _ _ _ _ _ _ _) (vC_one _ _ _ _ _ _ _ _ _ _ _ _) rfl rfl rfl rfl ?_))
     refine St.ret_one Tryz.results28 (He.setRow_blk HR8.out) undV rfl infV rfl rfl ?_ rfl
     rw [HG.out]
     exact ⟨_, _, rfl, HA8.out.off (St.only_row _ _ _) (He.OffT.of_blk HR8.out (fun e => hne e)), HO8.out.off (St.only_row _ _ _) (He.OffT.of_blk HR8.out (fun e => hni e)), He.setRow_below HB8.out (by omega) _⟩
end Go.Proofs.YthfknndjdfofgaaGreatDoor.Tp
