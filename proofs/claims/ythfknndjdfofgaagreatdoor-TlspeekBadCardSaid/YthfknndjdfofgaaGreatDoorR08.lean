/-
 Contract of package hello's Find over this seat's translation.
-/
import Derived.Test.YthfknndjdfofgaaGreatDoorR03
import Derived.Test.YthfknndjdfofgaaGreatDoorR07
import Derived.Test.YthfknndjdfofgaaGreatDoorR06
namespace Go.Proofs.YthfknndjdfofgaaGreatDoor.He
open Go.RowKit Go.Proofs.YthfknndjdfofgaaGreatDoor.Wd Go.Proofs.YthfknndjdfofgaaGreatDoor.Be

def findL (l : List (Int × List UInt8)) (kind : Int) : List UInt8 × Bool := match l with
 | [] => ([], false)
 | x :: l => if x.1 = kind then (x.2, true) else findL l kind
theorem findL_go {l : List Xt} {k : Nat} {x : Xt} (h : l[k]? = some x) (kind : Int) (hn : ¬ x.kind = kind) : findL ((l.drop k).map ext) kind = findL ((l.drop (k + 1)).map ext) kind := by
 obtain ⟨hk, rfl⟩ := List.getElem?_eq_some_iff.1 h
 rw [List.drop_eq_getElem_cons hk, List.map_cons, findL, if_neg (show ¬ (ext l[k]).1 = kind from hn)]
theorem findL_stop {l : List Xt} {k : Nat} {x : Xt} (h : l[k]? = some x) (kind : Int) (hn : x.kind = kind) : findL ((l.drop k).map ext) kind = (x.b, true) := by
 obtain ⟨hk, rfl⟩ := List.getElem?_eq_some_iff.1 h
 rw [List.drop_eq_getElem_cons hk, List.map_cons, findL, if_pos (show (ext l[k]).1 = kind from hn)]
 rfl
def FindPost (p : List UInt8 × Bool) (w : World) (e : Ending) (w' : World) : Prop :=
 ∃ v, e = .returned (.tuple #[v, .bool p.2]) ∧ Own w' w.heap.size v p.1 ∧ Below w.heap.size w w'

set_option maxRecDepth 100000 in
set_option maxHeartbeats 1000000 in
theorem find_any (H : Hv) (kind : Int) (w : World) (hH : H.Ok w) :
   Calls Tryz.prog 131 #[.agg H.C, .int .i64 kind] w (FindPost (findL H.hel.exts kind) w) := by
 have HH := Lib.hid hH
 have hr := hH.rnd
 have hx1 := hH.x1
 clear hH
 obtain ⟨R, hR⟩ : ∃ R, R = findL H.hel.exts kind := ⟨_, rfl⟩
 have HR0 := Lib.hid hR
 rw [← hR]
 clear hR
 go_enter Tryz.func131, Tryz.ntmps131
 go_upto_region 1 with fail
 have hb0 := Blk.new w 68 H.C
 have HB0 := Lib.hid ((Below.refl w.heap.size w).alloc (Nat.le_refl _) (.cells H.C 68))
 generalize w.alloc (.cells H.C 68) = w1 at *
 have hcx := cell_xs hb0 hr
 clear hb0
 obtain ⟨n, hn⟩ : ∃ n, n = H.xs.length := ⟨_, rfl⟩
 rw [← hn] at hcx hx1
 have HN := Lib.hid hn
 clear hn
 go_wp2_with fail
 go_loopw [11] (fun i wr => ∃ k, k ≤ n ∧ i = .int .i64 (k : Int) ∧ Hid (R = findL ((H.xs.drop k).map ext) kind) ∧ Hid (Below w.heap.size w wr)) (fun i _ => n - (intOf i).toNat)
 case atStart => exact ⟨0, Nat.zero_le _, rfl, Lib.hid (by rw [List.drop_zero]; exact HR0.out), HB0⟩
 case round =>
   obtain ⟨k, hk, rfl, HE, HB⟩ := hrel
   by_cases hlt : k < n
   · have hki : (k : Int) < (n : Int) := by omega
     obtain ⟨x, hx⟩ : ∃ x, H.xs[k]? = some x := ⟨_, List.getElem?_eq_getElem (by have := HN.out; omega)⟩
     obtain ⟨hok, g, o, hA, hgw, h0, h1⟩ := HH.out.xs k x hx
     rw [hA]
     have hc0 := (HB.out.cell (p := ⟨g, _, none⟩) hgw).trans h0
     have hc1 := (HB.out.cell (p := ⟨g, _, none⟩) hgw).trans h1
     have HOk := Lib.hid hok
     have hsmall := hok.small
     have HX := Lib.hid hx
     clear h0 h1 hok hx HR0 hA hcx
     go_upto_region 4 with fail
     have HZ1 := Lib.hid (Blk.new wr 70 #[Value.int .i64 x.kind, .slice x.A x.n x.c])
     have hz0 : (wr.alloc (.cells #[Value.int .i64 x.kind, .slice x.A x.n x.c] 70)).cell? ⟨wr.heap.size, 0, none⟩ = some (.int .i64 x.kind) := by rw [HZ1.out.cell]; rfl
     have hz1 : (wr.alloc (.cells #[Value.int .i64 x.kind, .slice x.A x.n x.c] 70)).cell? ⟨wr.heap.size, 1, none⟩ = some (.slice x.A x.n x.c) := by rw [HZ1.out.cell]; rfl
     have HB1 := Lib.hid (HB.out.alloc HB.out.size (.cells #[Value.int .i64 x.kind, .slice x.A x.n x.c] 70))
     clear HB hc0 hc1
     generalize wr.alloc (.cells #[Value.int .i64 x.kind, .slice x.A x.n x.c] 70) = w2 at *
     generalize wr.heap.size = z at *
     by_cases hkd : x.kind = kind
     · have HF := Lib.hid (show R = (x.b, true) by rw [HE.out]; exact findL_stop HX.out kind hkd)
       have hkb : (x.kind == kind) = true := by simpa using hkd
       clear hkd
       go_wp2_with fail
       refine (bclone_any w2 x.A x.n x.c x.b (HOk.out.src.below HB1.out) (by omega)).mono ?_
       rintro e w3 ⟨v3, rfl, ho3, hb3⟩
       have HO3 := Lib.hid ho3
       have HB3 := Lib.hid hb3
       clear ho3 hb3
       go_wp2_with fail
       go_ret2
       rw [HF.out]
       exact ⟨v3, rfl, HO3.out.lower HB1.out.size, HB1.out.trans (HB3.out.mono HB1.out.size)⟩
     · have HG := Lib.hid (show R = findL ((H.xs.drop (k + 1)).map ext) kind by rw [HE.out]; exact findL_go HX.out kind hkd)
       have hkb : (x.kind == kind) = false := by simpa using hkd
       clear hkd
       go_wp2_with fail
       go_roundw
       case rel => exact ⟨k + 1, by omega, by go_num, HG, HB1⟩
       case measure => simp [intOf]; omega
   · obtain rfl : k = n := by omega
     have HF := Lib.hid (show R = ([], false) by rw [HE.out, List.drop_eq_nil_of_le (by have := HN.out; omega)]; rfl)
     clear hcx
     go_wp2_with fail
     go_ret2
     rw [HF.out]
     exact ⟨_, rfl, ⟨rfl, .inl ⟨rfl, rfl⟩⟩, HB.out⟩
end Go.Proofs.YthfknndjdfofgaaGreatDoor.He

/-
 Plain facts on what is found of a hello's extensions. No condition.
-/
namespace Go.Proofs.YthfknndjdfofgaaGreatDoor.Ex
open Go.RowKit Go.Proofs.YthfknndjdfofgaaGreatDoor.Wd Go.Proofs.YthfknndjdfofgaaGreatDoor.Be Go.Proofs.YthfknndjdfofgaaGreatDoor.He Go.Proofs.YthfknndjdfofgaaGreatDoor.Ro

def fdS {α : Type} (tell : List UInt8 → List α × Int) (p : List UInt8 × Bool) : List α × Int := if p.2 then tell p.1 else ([], 0)
theorem findL_mem : ∀ (l : List (Int × List UInt8)) (kind : Int), (findL l kind).1 = [] ∨ ∃ x ∈ l, (findL l kind).1 = x.2
 | [], _ => .inl rfl
 | x :: l, kind => by
   rw [findL]
   split
   · exact .inr ⟨x, by simp, rfl⟩
   · rcases findL_mem l kind with h | ⟨y, hy, h⟩
     · exact .inl h
     · exact .inr ⟨y, by simp [hy], h⟩
theorem findL_len {H : Hv} {w : World} (hH : H.Ok w) (kind : Int) : (findL H.hel.exts kind).1.length ≤ 140737488351232 := by
 rcases findL_mem H.hel.exts kind with h | ⟨x, hx, h⟩
 · rw [h]; exact Nat.zero_le _
 · rw [h]
   have hx' : x ∈ H.xs.map ext := hx
   obtain ⟨y, hy, rfl⟩ := List.mem_map.1 hx'
   obtain ⟨i, hi⟩ := List.mem_iff_getElem?.1 hy
   have hok := (hH.xs i y hi).1
   have h1 := hok.src.1
   have h2 := hok.small
   show y.b.length ≤ _
   omega
def RelN (_ : World) (_ : Nat) (v : Value) (x : List UInt8) : Prop := v = .string (str8 x)
def RelP (w : World) (B : Nat) (v : Value) (l : List (List UInt8)) : Prop := OwnE w elS B v l ∧ l.length ≤ 65535
def RelV (w : World) (B : Nat) (v : Value) (l : List Int) : Prop := OwnE w elI B v l ∧ l.length ≤ 65535

end Go.Proofs.YthfknndjdfofgaaGreatDoor.Ex

/-
 Contract of package exts' find over this seat's translation, with hagioscope/exts.Name.
-/
namespace Go.Proofs.YthfknndjdfofgaaGreatDoor.Ex
open Go.RowKit Go.Proofs.YthfknndjdfofgaaGreatDoor.Wd Go.Proofs.YthfknndjdfofgaaGreatDoor.Be Go.Proofs.YthfknndjdfofgaaGreatDoor.He Go.Proofs.YthfknndjdfofgaaGreatDoor.Ro

set_option maxRecDepth 100000 in
set_option maxHeartbeats 1000000 in
theorem fdN_any (H : Hv) (kind : Int) (w : World) (hH : H.Ok w) :
   Calls Tryz.prog 124 #[.agg H.C, .int .i64 kind, .func (.func 125) #[] #[]] w fun e w' => ∃ v, e = .returned (.tuple #[v, .bool (findL H.hel.exts kind).2, .int .i64 (fdS nameS (findL H.hel.exts kind)).2]) ∧ RelN w' w.heap.size v (fdS nameS (findL H.hel.exts kind)).1 ∧ Below w.heap.size w w' := by
 have hr := hH.rnd
 have hlen := findL_len hH kind
 have HHa := Lib.hid (hH.below ((Below.refl w.heap.size w).alloc (Nat.le_refl _) (.cells H.C 68)))
 have HB0 := Lib.hid ((Below.refl w.heap.size w).alloc (Nat.le_refl _) (.cells H.C 68))
 clear hH
 go_enter Tryz.func124, Tryz.ntmps124
 go_upto_region 1 with fail
 have hb0 := Blk.new w 68 H.C
 generalize w.alloc (.cells H.C 68) = w0 at *
 go_wp2_with (refine go_ld 68 hb0 undH rfl infH (Hv.size hr) rfl rfl rfl ?_)
 refine (find_any H kind w0 HHa.out).mono ?_
 rintro e w1 ⟨v1, rfl, ho1, hb1⟩
 have HB1 := Lib.hid (HB0.out.trans (hb1.mono HB0.out.size))
 obtain ⟨A1, c1, rfl, _, hs1⟩ := Own.src ho1
 have HS1 := Lib.hid hs1
 clear ho1 hs1 hb1 hb0 HHa
 obtain ⟨p, hp⟩ : ∃ p, findL H.hel.exts kind = p := ⟨_, rfl⟩
 have HP := Lib.hid hp
 rw [hp] at hlen HS1 ⊢
 clear hp
 obtain ⟨d, b⟩ := p
 simp only at hlen HS1 ⊢
 have HF := Lib.hid (show fdS nameS (d, b) = if b then nameS d else ([], 0) from rfl)
 cases b with
 | false =>
   have HE := Lib.hid (show fdS nameS (d, false) = ([], 0) by rw [HF.out]; rfl)
   clear HF
   go_wp2_with fail
   go_ret3
   rw [HP.out, HE.out]
   exact ⟨_, rfl, rfl, HB1.out⟩
 | true =>
   have HE := Lib.hid (show fdS nameS (d, true) = nameS d by rw [HF.out]; rfl)
   clear HF
   obtain ⟨m, hm⟩ : ∃ m, d.length = m := ⟨_, rfl⟩
   rw [hm] at HS1 hlen ⊢
   clear hm
   go_wp2_with fail
   refine (name_any A1 m c1 d w1 HS1.out (by omega)).mono ?_
   rintro e w2 ⟨rfl, hb2⟩
   have HB2 := Lib.hid (HB1.out.trans (hb2.mono HB1.out.size))
   clear hb2
   rw [← HE.out]
   go_wp2_with fail
   go_ret3
   rw [HP.out]
   exact ⟨_, rfl, rfl, HB2.out⟩
end Go.Proofs.YthfknndjdfofgaaGreatDoor.Ex

/-
 Contract of package exts' find over this seat's translation, with hagioscope/exts.Protocols.
-/
namespace Go.Proofs.YthfknndjdfofgaaGreatDoor.Ex
open Go.RowKit Go.Proofs.YthfknndjdfofgaaGreatDoor.Wd Go.Proofs.YthfknndjdfofgaaGreatDoor.Be Go.Proofs.YthfknndjdfofgaaGreatDoor.He Go.Proofs.YthfknndjdfofgaaGreatDoor.Ro

set_option maxRecDepth 100000 in
set_option maxHeartbeats 1000000 in
theorem fdP_any (H : Hv) (kind : Int) (w : World) (hH : H.Ok w) :
   Calls Tryz.prog 126 #[.agg H.C, .int .i64 kind, .func (.func 127) #[] #[]] w fun e w' => ∃ v, e = .returned (.tuple #[v, .bool (findL H.hel.exts kind).2, .int .i64 (fdS protoS (findL H.hel.exts kind)).2]) ∧ RelP w' w.heap.size v (fdS protoS (findL H.hel.exts kind)).1 ∧ Below w.heap.size w w' := by
 have hr := hH.rnd
 have hlen := findL_len hH kind
 have HHa := Lib.hid (hH.below ((Below.refl w.heap.size w).alloc (Nat.le_refl _) (.cells H.C 68)))
 have HB0 := Lib.hid ((Below.refl w.heap.size w).alloc (Nat.le_refl _) (.cells H.C 68))
 clear hH
 go_enter Tryz.func126, Tryz.ntmps126
 go_upto_region 1 with fail
 have hb0 := Blk.new w 68 H.C
 generalize w.alloc (.cells H.C 68) = w0 at *
 go_wp2_with (refine go_ld 68 hb0 undH rfl infH (Hv.size hr) rfl rfl rfl ?_)
 refine (find_any H kind w0 HHa.out).mono ?_
 rintro e w1 ⟨v1, rfl, ho1, hb1⟩
 have HB1 := Lib.hid (HB0.out.trans (hb1.mono HB0.out.size))
 obtain ⟨A1, c1, rfl, _, hs1⟩ := Own.src ho1
 have HS1 := Lib.hid hs1
 clear ho1 hs1 hb1 hb0 HHa
 obtain ⟨p, hp⟩ : ∃ p, findL H.hel.exts kind = p := ⟨_, rfl⟩
 have HP := Lib.hid hp
 rw [hp] at hlen HS1 ⊢
 clear hp
 obtain ⟨d, b⟩ := p
 simp only at hlen HS1 ⊢
 have HF := Lib.hid (show fdS protoS (d, b) = if b then protoS d else ([], 0) from rfl)
 cases b with
 | false =>
   have HE := Lib.hid (show fdS protoS (d, false) = ([], 0) by rw [HF.out]; rfl)
   clear HF
   go_wp2_with fail
   go_ret3
   rw [HP.out, HE.out]
   exact ⟨_, rfl, ⟨OwnE.nil _ _ _, Nat.zero_le _⟩, HB1.out⟩
 | true =>
   have HE := Lib.hid (show fdS protoS (d, true) = protoS d by rw [HF.out]; rfl)
   clear HF
   obtain ⟨m, hm⟩ : ∃ m, d.length = m := ⟨_, rfl⟩
   rw [hm] at HS1 hlen ⊢
   clear hm
   go_wp2_with fail
   refine (protos_any A1 m c1 d w1 HS1.out (by omega)).mono ?_
   rintro e w2 ⟨v2, rfl, ho2, hl2, hb2⟩
   have HB2 := Lib.hid (HB1.out.trans (hb2.mono HB1.out.size))
   clear hb2
   rw [← HE.out] at ho2 hl2 ⊢
   have HO2 := Lib.hid ho2
   clear ho2
   go_wp2_with fail
   go_ret3
   rw [HP.out]
   exact ⟨_, rfl, ⟨HO2.out.lower HB1.out.size, hl2⟩, HB2.out⟩
end Go.Proofs.YthfknndjdfofgaaGreatDoor.Ex

/-
 Contract of package exts' find over this seat's translation, with hagioscope/exts.Versions.
-/
namespace Go.Proofs.YthfknndjdfofgaaGreatDoor.Ex
open Go.RowKit Go.Proofs.YthfknndjdfofgaaGreatDoor.Wd Go.Proofs.YthfknndjdfofgaaGreatDoor.Be Go.Proofs.YthfknndjdfofgaaGreatDoor.He Go.Proofs.YthfknndjdfofgaaGreatDoor.Ro

set_option maxRecDepth 100000 in
set_option maxHeartbeats 1000000 in
theorem fdV_any (H : Hv) (kind : Int) (w : World) (hH : H.Ok w) :
   Calls Tryz.prog 128 #[.agg H.C, .int .i64 kind, .func (.func 129) #[] #[]] w fun e w' => ∃ v, e = .returned (.tuple #[v, .bool (findL H.hel.exts kind).2, .int .i64 (fdS verS (findL H.hel.exts kind)).2]) ∧ RelV w' w.heap.size v (fdS verS (findL H.hel.exts kind)).1 ∧ Below w.heap.size w w' := by
 have hr := hH.rnd
 have hlen := findL_len hH kind
 have HHa := Lib.hid (hH.below ((Below.refl w.heap.size w).alloc (Nat.le_refl _) (.cells H.C 68)))
 have HB0 := Lib.hid ((Below.refl w.heap.size w).alloc (Nat.le_refl _) (.cells H.C 68))
 clear hH
 go_enter Tryz.func128, Tryz.ntmps128
 go_upto_region 1 with fail
 have hb0 := Blk.new w 68 H.C
 generalize w.alloc (.cells H.C 68) = w0 at *
 go_wp2_with (refine go_ld 68 hb0 undH rfl infH (Hv.size hr) rfl rfl rfl ?_)
 refine (find_any H kind w0 HHa.out).mono ?_
 rintro e w1 ⟨v1, rfl, ho1, hb1⟩
 have HB1 := Lib.hid (HB0.out.trans (hb1.mono HB0.out.size))
 obtain ⟨A1, c1, rfl, _, hs1⟩ := Own.src ho1
 have HS1 := Lib.hid hs1
 clear ho1 hs1 hb1 hb0 HHa
 obtain ⟨p, hp⟩ : ∃ p, findL H.hel.exts kind = p := ⟨_, rfl⟩
 have HP := Lib.hid hp
 rw [hp] at hlen HS1 ⊢
 clear hp
 obtain ⟨d, b⟩ := p
 simp only at hlen HS1 ⊢
 have HF := Lib.hid (show fdS verS (d, b) = if b then verS d else ([], 0) from rfl)
 cases b with
 | false =>
   have HE := Lib.hid (show fdS verS (d, false) = ([], 0) by rw [HF.out]; rfl)
   clear HF
   go_wp2_with fail
   go_ret3
   rw [HP.out, HE.out]
   exact ⟨_, rfl, ⟨OwnE.nil _ _ _, Nat.zero_le _⟩, HB1.out⟩
 | true =>
   have HE := Lib.hid (show fdS verS (d, true) = verS d by rw [HF.out]; rfl)
   clear HF
   obtain ⟨m, hm⟩ : ∃ m, d.length = m := ⟨_, rfl⟩
   rw [hm] at HS1 hlen ⊢
   clear hm
   go_wp2_with fail
   refine (vers_any A1 m c1 d w1 HS1.out (by omega)).mono ?_
   rintro e w2 ⟨v2, rfl, ho2, hl2, hb2⟩
   have HB2 := Lib.hid (HB1.out.trans (hb2.mono HB1.out.size))
   clear hb2
   rw [← HE.out] at ho2 hl2 ⊢
   have HO2 := Lib.hid ho2
   clear ho2
   go_wp2_with fail
   go_ret3
   rw [HP.out]
   exact ⟨_, rfl, ⟨HO2.out.lower HB1.out.size, hl2⟩, HB2.out⟩
end Go.Proofs.YthfknndjdfofgaaGreatDoor.Ex

/-
 Contract over this seat's translation: cmp.Or at errors.
-/
namespace Go.Proofs.YthfknndjdfofgaaGreatDoor.Ex
open Go.RowKit Go.Proofs.YthfknndjdfofgaaGreatDoor.Wd Go.Proofs.YthfknndjdfofgaaGreatDoor.Be Go.Proofs.YthfknndjdfofgaaGreatDoor.He Go.Proofs.YthfknndjdfofgaaGreatDoor.Ro

def orL : List Int → Int
 | [] => 0
 | x :: l => if x = 0 then orL l else x
theorem orL_go {l : List Int} {k : Nat} {x : Int} (hx : l[k]? = some x) (h : x = 0) : orL (l.drop k) = orL (l.drop (k + 1)) := by
 obtain ⟨hk, rfl⟩ := List.getElem?_eq_some_iff.1 hx
 rw [List.drop_eq_getElem_cons hk, orL, if_pos h]
theorem orL_stop {l : List Int} {k : Nat} {x : Int} (hx : l[k]? = some x) (h : ¬ x = 0) : orL (l.drop k) = x := by
 obtain ⟨hk, rfl⟩ := List.getElem?_eq_some_iff.1 hx
 rw [List.drop_eq_getElem_cons hk, orL, if_neg h]
set_option maxRecDepth 100000 in
set_option maxHeartbeats 1000000 in
theorem or_any (l : List Int) (g n c : Nat) (w : World) (hl : l.length = n) (hn : n ≤ 65535) (hc : ∀ (k : Nat) (x : Int), l[k]? = some x → w.cell? ⟨g, k, none⟩ = some (.int .i64 x)) :
   Calls Tryz.prog 130 #[.slice (some ⟨g, 0, none⟩) n c] w fun e w' => e = .returned (.int .i64 (orL l)) ∧ Hid (Below w.heap.size w w') := by
 have HN := Lib.hid hl
 clear hl
 go_enter Tryz.func130, Tryz.ntmps130
 have HC0 := Lib.hid hc
 clear hc
 go_wp2_with fail
 go_loopw [8] (fun i wr => ∃ k, k ≤ n ∧ i = .int .i64 (k : Int) ∧ Hid (orL l = orL (l.drop k)) ∧ Hid (wr = w)) (fun i _ => n - (intOf i).toNat)
 case atStart => exact ⟨0, Nat.zero_le _, rfl, Lib.hid (by rw [List.drop_zero]), Lib.hid rfl⟩
 case round =>
   obtain ⟨k, hk, rfl, HE, HW⟩ := hrel
   obtain rfl := HW.out
   by_cases hlt : k < n
   · have hki : (k : Int) < (n : Int) := by omega
     obtain ⟨x, hx⟩ : ∃ x, l[k]? = some x := ⟨_, List.getElem?_eq_getElem (by have := HN.out; omega)⟩
     have hc0 := HC0.out k x hx
     have HX := Lib.hid hx
     clear hx
     by_cases h0 : x = 0
     · have HG := Lib.hid (show orL l = orL (l.drop (k + 1)) by rw [HE.out]; exact orL_go HX.out h0)
       have hb : (x != 0) = false := by simp [h0]
       have hb2 : decide (x = 0) = true := by simp [h0]
       clear h0
       go_wp2_with fail
       go_roundw
       case rel => exact ⟨k + 1, by omega, by go_num, HG, Lib.hid (by simp)⟩
       case measure => simp [intOf]; omega
     · have HG := Lib.hid (show orL l = x by rw [HE.out]; exact orL_stop HX.out h0)
       have hb : (x != 0) = true := by simp [h0]
       have hb2 : decide (x = 0) = false := by simp [h0]
       clear h0
       go_wp2_with fail
       go_ret
       rw [HG.out]
       exact ⟨rfl, Lib.hid (Below.refl _ _)⟩
   · obtain rfl : k = n := by omega
     have HF := Lib.hid (show orL l = 0 by rw [HE.out, List.drop_eq_nil_of_le (by have := HN.out; omega)]; rfl)
     go_wp2_with fail
     go_ret
     rw [HF.out]
     exact ⟨rfl, Lib.hid (Below.refl _ _)⟩
end Go.Proofs.YthfknndjdfofgaaGreatDoor.Ex

/-
 Contract of package exts' See over this seat's translation.
-/
namespace Go.Proofs.YthfknndjdfofgaaGreatDoor.Ex
open Go.RowKit Go.Proofs.YthfknndjdfofgaaGreatDoor.Wd Go.Proofs.YthfknndjdfofgaaGreatDoor.Be Go.Proofs.YthfknndjdfofgaaGreatDoor.He Go.Proofs.YthfknndjdfofgaaGreatDoor.Ro

structure Sn where
 has : Bool
 name : List UInt8
 alpn : List (List UInt8)
 vers : List Int
 ech : Bool
def Sn.zero : Sn := ⟨false, [], [], [], false⟩
def errS (L : List (Int × List UInt8)) : List Int := [(fdS nameS (findL L 0)).2, (fdS protoS (findL L 16)).2, (fdS verS (findL L 43)).2]
def seeS (L : List (Int × List UInt8)) : Sn × Int :=
 if orL (errS L) = 0 then (⟨(findL L 0).2, (fdS nameS (findL L 0)).1, (fdS protoS (findL L 16)).1, (fdS verS (findL L 43)).1, (findL L 65037).2⟩, 0) else (Sn.zero, orL (errS L))
def snC (s : Sn) (va vv : Value) : Array Value := #[.bool s.has, .string (str8 s.name), va, vv, .bool s.ech]
def SeeP (p : Sn × Int) (w : World) (e : Ending) (w' : World) : Prop :=
 ∃ va vv, e = .returned (.tuple #[.agg (snC p.1 va vv), .int .i64 p.2]) ∧ RelP w' w.heap.size va p.1.alpn ∧ RelV w' w.heap.size vv p.1.vers ∧ Below w.heap.size w w'
theorem undS : Tryz.prog.underlying 29 = some (.struct (Tryz.prog.fieldsOf 29)) := by kernel_rfl
theorem infS : (Tryz.prog.info? 29).map (·.size) = some 5 := by kernel_rfl
theorem RelP.below {w w' : World} {B : Nat} {v : Value} {l : List (List UInt8)} (h : RelP w B v l) (hb : Below w.heap.size w w') : RelP w' B v l := ⟨h.1.below hb, h.2⟩
theorem RelV.below {w w' : World} {B : Nat} {v : Value} {l : List Int} (h : RelV w B v l) (hb : Below w.heap.size w w') : RelV w' B v l := ⟨h.1.below hb, h.2⟩
theorem RelP.lower {w : World} {B B' : Nat} {v : Value} {l : List (List UInt8)} (h : RelP w B v l) (hB : B' ≤ B) : RelP w B' v l := ⟨h.1.lower hB, h.2⟩
theorem RelV.lower {w : World} {B B' : Nat} {v : Value} {l : List Int} (h : RelV w B v l) (hB : B' ≤ B) : RelV w B' v l := ⟨h.1.lower hB, h.2⟩
theorem RelP.off {w w' : World} {B : Nat} {v : Value} {l : List (List UInt8)} {row : Option Nat} (h : RelP w B v l) (hb : w.grownBy w' row) (hr : OffT w row (· = 9)) : RelP w' B v l := ⟨h.1.off hb hr, h.2⟩
theorem RelV.off {w w' : World} {B : Nat} {v : Value} {l : List Int} {row : Option Nat} (h : RelV w B v l) (hb : w.grownBy w' row) (hr : OffT w row (· = 3)) : RelV w' B v l := ⟨h.1.off hb hr, h.2⟩
theorem set5 (a b c d e x0 x1 x2 x3 x4 : Value) : (((((#[a, b, c, d, e] : Array Value).setIfInBounds 0 x0).setIfInBounds 1 x1).setIfInBounds 2 x2).setIfInBounds 3 x3).setIfInBounds 4 x4 = #[x0, x1, x2, x3, x4] := by simp
theorem five (w : World) (g : Nat) (t : TypeId) (a b c d e x0 x1 x2 x3 x4 : Value) (h : Blk w g t #[a, b, c, d, e]) :
   Blk (((((w.setCell ⟨g, 0, none⟩ x0).setCell ⟨g, 1, none⟩ x1).setCell ⟨g, 2, none⟩ x2).setCell ⟨g, 3, none⟩ x3).setCell ⟨g, 4, none⟩ x4) g t #[x0, x1, x2, x3, x4] ∧
   w.grownBy (((((w.setCell ⟨g, 0, none⟩ x0).setCell ⟨g, 1, none⟩ x1).setCell ⟨g, 2, none⟩ x2).setCell ⟨g, 3, none⟩ x3).setCell ⟨g, 4, none⟩ x4) (some g) := by
 constructor
 · have := ((((h.set_ 0 x0).set_ 1 x1).set_ 2 x2).set_ 3 x3).set_ 4 x4
   rwa [set5] at this
 · exact only_setCell (p := ⟨g, 4, none⟩) (only_setCell (p := ⟨g, 3, none⟩) (only_setCell (p := ⟨g, 2, none⟩) (only_setCell (p := ⟨g, 1, none⟩) (only_setCell (p := ⟨g, 0, none⟩) (only_refl w _) (.inl rfl) _) (.inl rfl) _) (.inl rfl) _) (.inl rfl) _) (.inl rfl) _

set_option maxRecDepth 100000 in
set_option maxHeartbeats 2000000 in
theorem see_any (H : Hv) (w : World) (hH : H.Ok w) :
   Calls Tryz.prog 78 #[.agg H.C] w (SeeP (seeS H.hel.exts) w) := by
 have hr := hH.rnd
 have HH := Lib.hid hH
 have hR : seeS H.hel.exts = if orL (errS H.hel.exts) = 0 then (⟨(findL H.hel.exts 0).2, (fdS nameS (findL H.hel.exts 0)).1, (fdS protoS (findL H.hel.exts 16)).1, (fdS verS (findL H.hel.exts 43)).1, (findL H.hel.exts 65037).2⟩, 0) else (Sn.zero, orL (errS H.hel.exts)) := rfl
 have hE : errS H.hel.exts = [(fdS nameS (findL H.hel.exts 0)).2, (fdS protoS (findL H.hel.exts 16)).2, (fdS verS (findL H.hel.exts 43)).2] := rfl
 rw [hE] at hR
 obtain ⟨q, hq⟩ : ∃ q, seeS H.hel.exts = q := ⟨_, rfl⟩
 rw [hq] at hR ⊢
 obtain ⟨a1, a2, a3, ha1, ha2, ha3⟩ : ∃ a b c, (findL H.hel.exts 0).2 = a ∧ (fdS nameS (findL H.hel.exts 0)).1 = b ∧ (fdS nameS (findL H.hel.exts 0)).2 = c := ⟨_, _, _, rfl, rfl, rfl⟩
 obtain ⟨b1, b2, b3, hB1, hB2, hB3⟩ : ∃ a b c, (findL H.hel.exts 16).2 = a ∧ (fdS protoS (findL H.hel.exts 16)).1 = b ∧ (fdS protoS (findL H.hel.exts 16)).2 = c := ⟨_, _, _, rfl, rfl, rfl⟩
 obtain ⟨c1, c2, c3, hC1, hC2, hC3⟩ : ∃ a b c, (findL H.hel.exts 43).2 = a ∧ (fdS verS (findL H.hel.exts 43)).1 = b ∧ (fdS verS (findL H.hel.exts 43)).2 = c := ⟨_, _, _, rfl, rfl, rfl⟩
 obtain ⟨d1, hD1⟩ : ∃ a, (findL H.hel.exts 65037).2 = a := ⟨_, rfl⟩
 rw [ha1, ha2, ha3, hB2, hB3, hC2, hC3, hD1] at hR
 have FA := fun w h => fdN_any H 0 w h
 have FB := fun w h => fdP_any H 16 w h
 have FC := fun w h => fdV_any H 43 w h
 rw [ha1, ha2, ha3] at FA
 rw [hB1, hB2, hB3] at FB
 rw [hC1, hC2, hC3] at FC
 have GA := Lib.hid FA
 have GB := Lib.hid FB
 have GC := Lib.hid FC
 have HR := Lib.hid hR
 have HD1 := Lib.hid hD1
 clear hH FA FB FC hR hE hq ha1 ha2 ha3 hB1 hB2 hB3 hC1 hC2 hC3 hD1
 go_enter Tryz.func78, Tryz.ntmps78
 go_upto_region 1 with fail
 have hb0 := (Blk.new w 68 H.C).alloc (.cells #[.bool false, .string ⟨#[]⟩, .slice none 0 0, .slice none 0 0, .bool false] 29)
 have HS0 := Lib.hid (blk_at (w.alloc (.cells H.C 68)) 29 #[.bool false, .string ⟨#[]⟩, .slice none 0 0, .slice none 0 0, .bool false] _ (w.heap.size + 1) (by rw [alloc_size]) rfl)
 have HB0 := Lib.hid (((Below.refl w.heap.size w).alloc (Nat.le_refl _) (.cells H.C 68)).alloc (by simp) (.cells #[.bool false, .string ⟨#[]⟩, .slice none 0 0, .slice none 0 0, .bool false] 29))
 generalize (w.alloc (.cells H.C 68)).alloc (.cells #[.bool false, .string ⟨#[]⟩, .slice none 0 0, .slice none 0 0, .bool false] 29) = w0 at *
 go_wp2_with (refine go_ld 68 hb0 undH rfl infH (Hv.size hr) rfl rfl rfl ?_)
 refine (GA.out w0 (HH.out.below HB0.out)).mono ?_
 rintro e w1 ⟨v1, rfl, hv1, hbl⟩
 unfold RelN at hv1
 subst hv1
 have hb1 := hb0.below hbl hb0.lt
 have HS1 := Lib.hid (HS0.out.below hbl HS0.out.lt)
 have HB1 := Lib.hid (HB0.out.trans (hbl.mono HB0.out.size))
 clear hb0 hbl HS0 HB0 GA
 go_wp2_with (refine go_ld 68 hb1 undH rfl infH (Hv.size hr) rfl rfl rfl ?_)
 refine (GB.out w1 (HH.out.below HB1.out)).mono ?_
 rintro e w2 ⟨v2, rfl, hv2, hbl⟩
 have HV2 := Lib.hid (RelP.lower hv2 HB1.out.size)
 have hb2 := hb1.below hbl hb1.lt
 have HS2 := Lib.hid (HS1.out.below hbl HS1.out.lt)
 have HB2 := Lib.hid (HB1.out.trans (hbl.mono HB1.out.size))
 clear hb1 hbl HS1 HB1 GB hv2
 go_wp2_with (refine go_ld 68 hb2 undH rfl infH (Hv.size hr) rfl rfl rfl ?_)
 refine (GC.out w2 (HH.out.below HB2.out)).mono ?_
 rintro e w3 ⟨v3, rfl, hv3, hbl⟩
 have HV2' := Lib.hid (HV2.out.below hbl)
 have HV3 := Lib.hid (RelV.lower hv3 HB2.out.size)
 have hb3 := hb2.below hbl hb2.lt
 have HS3 := Lib.hid (HS2.out.below hbl HS2.out.lt)
 have HB3 := Lib.hid (HB2.out.trans (hbl.mono HB2.out.size))
 clear hb2 hbl HS2 HB2 GC hv3 HV2
 have HK := Lib.hid (show ∀ (k : Nat) (x : Int), [a3, b3, c3][k]? = some x → (w3.alloc (.cells #[.int .i64 a3, .int .i64 b3, .int .i64 c3] 25)).cell? ⟨w3.heap.size, k, none⟩ = some (.int .i64 x) from fun k x hx => by
   rw [(Blk.new w3 25 #[.int .i64 a3, .int .i64 b3, .int .i64 c3]).cell]
   match k, hx with
   | 0, hx => injection hx with hx; subst hx; rfl
   | 1, hx => injection hx with hx; subst hx; rfl
   | 2, hx => injection hx with hx; subst hx; rfl
   | k + 3, hx => simp at hx)
 have HA3 := Lib.hid ((Below.refl w3.heap.size w3).alloc (Nat.le_refl _) (.cells #[.int .i64 a3, .int .i64 b3, .int .i64 c3] 25))
 go_wp2_with fail
 refine (or_any [a3, b3, c3] w3.heap.size 3 3 _ rfl (by omega) HK.out).mono ?_
 rintro e w4 ⟨rfl, hbl⟩
 have hbl := HA3.out.trans (hbl.out.mono HA3.out.size)
 have HV2 := Lib.hid (HV2'.out.below hbl)
 have HV3' := Lib.hid (HV3.out.below hbl)
 have hb4 := hb3.below hbl hb3.lt
 have HS4 := Lib.hid (HS3.out.below hbl HS3.out.lt)
 have HB4 := Lib.hid (HB3.out.trans (hbl.mono HB3.out.size))
 clear hb3 hbl HS3 HB3 HK HA3 HV2' HV3
 obtain ⟨E, hE⟩ : ∃ E, orL [a3, b3, c3] = E := ⟨_, rfl⟩
 rw [hE] at HR ⊢
 clear hE
 by_cases h0 : E = 0
 · have HF := Lib.hid (show q = (⟨a1, a2, b2, c2, d1⟩, 0) by rw [HR.out, if_pos h0])
   have hb : (E != 0) = false := by simp [h0]
   have hdz : decide (E = 0) = true := by simp [h0]
   clear h0 HR
   go_wp2_with (refine go_ld 68 hb4 undH rfl infH (Hv.size hr) rfl rfl rfl ?_)
   refine (find_any H 65037 w4 (HH.out.below HB4.out)).mono ?_
   rintro e w5 ⟨v5, rfl, _, hbl⟩
   rw [HD1.out]
   have HV2' := Lib.hid (HV2.out.below hbl)
   have HV3 := Lib.hid (HV3'.out.below hbl)
   have HS5 := Lib.hid (HS4.out.below hbl HS4.out.lt)
   have HB5 := Lib.hid (HB4.out.trans (hbl.mono HB4.out.size))
   clear hb4 hbl HS4 HB4 HV2 HV3'
   obtain ⟨Al, cl, rfl⟩ := OwnE.form HV2'.out.1
   obtain ⟨Av, cv, rfl⟩ := OwnE.form HV3.out.1
   have hk0 := HS5.out.cell 0
   have hk1 := HS5.out.cell 1
   have hk2 := HS5.out.cell 2
   have hk3 := HS5.out.cell 3
   have hk4 := HS5.out.cell 4
   have hf0 := HS5.out.frozen 0
   have hf1 := HS5.out.frozen 1
   have hf2 := HS5.out.frozen 2
   have hf3 := HS5.out.frozen 3
   have hf4 := HS5.out.frozen 4
   go_wp2_with fail
   obtain ⟨hbk, hgr⟩ := five w5 (w.heap.size + 1) 29 _ _ _ _ _ (.bool a1) (.string (str8 a2)) (.slice Al b2.length cl) (.slice Av c2.length cv) (.bool d1) HS5.out
   refine Ro.ret_two Tryz.results78 hbk undS rfl infS rfl rfl rfl ?_ rfl
   rw [HF.out]
   exact ⟨_, _, rfl, HV2'.out.off hgr (OffT.of_blk HS5.out (by decide)), HV3.out.off hgr (OffT.of_blk HS5.out (by decide)), HB5.out.grown hgr HB5.out.size (fun j hj => by injection hj with hj; omega)⟩
 · have HF := Lib.hid (show q = (Sn.zero, E) by rw [HR.out, if_neg h0])
   have hb : (E != 0) = true := by simp [h0]
   have hdz : decide (E = 0) = false := by simp [h0]
   clear h0 HR hb4 HV2 HV3'
   have hk0 := HS4.out.cell 0
   have hk1 := HS4.out.cell 1
   have hk2 := HS4.out.cell 2
   have hk3 := HS4.out.cell 3
   have hk4 := HS4.out.cell 4
   have hf0 := HS4.out.frozen 0
   have hf1 := HS4.out.frozen 1
   have hf2 := HS4.out.frozen 2
   have hf3 := HS4.out.frozen 3
   have hf4 := HS4.out.frozen 4
   go_wp2_with fail
   obtain ⟨hbk, hgr⟩ := five w4 (w.heap.size + 1) 29 _ _ _ _ _ (.bool false) (.string ⟨#[]⟩) (.slice none 0 0) (.slice none 0 0) (.bool false) HS4.out
   refine Ro.ret_two Tryz.results78 hbk undS rfl infS rfl rfl rfl ?_ rfl
   rw [HF.out]
   exact ⟨_, _, rfl, ⟨OwnE.nil _ _ _, Nat.zero_le _⟩, ⟨OwnE.nil _ _ _, Nat.zero_le _⟩, HB4.out.grown hgr HB4.out.size (fun j hj => by injection hj with hj; omega)⟩
end Go.Proofs.YthfknndjdfofgaaGreatDoor.Ex
