/-
  Contracts of package policy's readers and readLine over this seat's translation: lines are read by functions in a map. Condition: a line of up to a million bytes.
-/
import Derived.Test.YtlpondbcnfaggaaGreatDoorR42
import Derived.Laws.EntriesVeiled
import Derived.Test.YtlpondbcnfaggaaGreatDoorR15
import Derived.Test.YtlpondbcnfaggaaGreatDoorR14
namespace Go.Proofs.YtlpondbcnfaggaaGreatDoor.Po
open Go.RowKit Go.Shelf Go.Proofs.YtlpondbcnfaggaaGreatDoor.Wd Go.Proofs.YtlpondbcnfaggaaGreatDoor.Asc Go.Proofs.YtlpondbcnfaggaaGreatDoor.Tx Go.Proofs.YtlpondbcnfaggaaGreatDoor.St Go.Proofs.YtlpondbcnfaggaaGreatDoor.Tr Go.Proofs.YtlpondbcnfaggaaGreatDoor.Te Go.Maps

/-- how a function in a map reads -/
def fnE : Value → Option (DataW Unit × List MemPlace)
  | .func (.func f) a b => if a.size = 0 ∧ b.size = 0 then some (.lit (.int .i64 (f : Nat)), []) else none
  | .nilFunc => some (.nil, [])
  | _ => none
theorem fnE_mk (f : Nat) : fnE (.func (.func f) #[] #[]) = some (.lit (.int .i64 (f : Nat)), []) := by simp [fnE]
theorem fnE_inv {v : Value} {f : Nat} {ps : List MemPlace} (h : fnE v = some (.lit (.int .i64 (f : Nat)), ps)) : v = .func (.func f) #[] #[] := by
  unfold fnE at h
  split at h
  · rename_i g a b
    split at h
    · rename_i hs
      simp at h
      obtain ⟨h, _⟩ := h
      have e : g = f := by first | exact h | exact Int.ofNat_inj.1 h
      rw [Array.eq_empty_of_size_eq_zero hs.1, Array.eq_empty_of_size_eq_zero hs.2, e]
    · cases h
  · injection h with h
    injection h with h _
    cases h
  · cases h
/-- which function reads the lines that begin so -/
def codeT (l : List UInt8) : DataW Unit :=
  if l = kDefault then .lit (.int .i64 ((100 : Nat) : Int)) else if l = kAllow then .lit (.int .i64 ((101 : Nat) : Int))
  else if l = kDeny then .lit (.int .i64 ((103 : Nat) : Int)) else if l = kPin then .lit (.int .i64 ((104 : Nat) : Int)) else .nil
def isT (l : List UInt8) : Bool := decide (l = kDefault ∨ l = kAllow ∨ l = kDeny ∨ l = kPin)
/-- the readers, as they lie in memory -/
def TabI (w : World) (t : Nat) : Prop := ∃ n D, w.ownsMap Tryz.prog 9 (fnE) t n D ∧ ∀ l : List UInt8, D.atKey (.string l) .nil = codeT l ∧ Maps.has D (.string l) = isT l
theorem TabI.but {S : List Nat} {w w' : World} {t : Nat} (h : TabI w t) (k : But S w w') (ht : t ∉ S) : TabI w' t := by
  obtain ⟨n, D, h1, h2⟩ := h
  exact ⟨n, D, map_but h1 k ht, h2⟩
theorem TabI.lt {w : World} {t : Nat} (h : TabI w t) : t < w.heap.size := by
  obtain ⟨n, D, h1, _⟩ := h
  exact h1.lt
theorem undTb : Tryz.prog.underlying 101 = some (.map 9 158) := by kernel_rfl
theorem keyedS : Keyed Tryz.prog 9 := string_keyed Tryz.underlying9
theorem keyS9 (l : List UInt8) (h : l.length ≤ 1000000) : keyOf Tryz.prog 9 (.string (str l)) = some (.string l) := by
  have hz : (str l).size ≤ maxLen := by rw [str_size]; unfold maxLen; omega
  unfold keyOf
  rw [Tryz.underlying9]
  show mapKey Tryz.prog 9 (.string (str l)) = _
  unfold mapKey
  rw [Tryz.underlying9]
  simp [hz]
theorem zeroFn (w : World) : (zeroValue 158).run Tryz.prog w = .ok .nilFunc w := by kernel_rfl
set_option maxRecDepth 100000 in
theorem tab_look {w : World} {t : Nat} (h : TabI w t) (l : List UInt8) (hl : l.length ≤ 1000000) :
    ∃ v ps, (Instr.lookup 101 (.map (some t)) (.string (str l)) true).run Tryz.prog w = .ok (.tuple #[v, .bool (isT l)]) w ∧ fnE v = some (codeT l, ps) := by
  obtain ⟨n, D, h1, h2⟩ := h
  obtain ⟨v, ps, h3, h4⟩ := h1.look_ok keyedS undTb (zeroFn w) (show fnE .nilFunc = some (.nil, []) from rfl) (keyS9 l hl)
  rw [(h2 l).2] at h3
  rw [(h2 l).1] at h4
  exact ⟨v, ps, h3, h4⟩
theorem isK (l : List UInt8) : WideAt.IsKeyLit (.string l) := trivial
theorem tab_four : ∀ l : List UInt8, (((((DataW.map [] : DataW Unit).put (.string kDefault) (codeT kDefault)).put (.string kAllow) (codeT kAllow)).put (.string kDeny) (codeT kDeny)).put (.string kPin) (codeT kPin)).atKey (.string l) .nil = codeT l ∧
    Maps.has (((((DataW.map [] : DataW Unit).put (.string kDefault) (codeT kDefault)).put (.string kAllow) (codeT kAllow)).put (.string kDeny) (codeT kDeny)).put (.string kPin) (codeT kPin)) (.string l) = isT l := fun l => by
  have m0 : IsMap (DataW.map [] : DataW Unit) := isMap_empty
  have m1 := m0.put (.string kDefault) (codeT kDefault)
  have m2 := m1.put (.string kAllow) (codeT kAllow)
  have m3 := m2.put (.string kDeny) (codeT kDeny)
  have ne : ∀ a : List UInt8, l ≠ a → (Lit.string l) ≠ .string a := fun a h e => by injection e with e; exact h e
  by_cases h4 : l = kPin
  · subst h4
    exact ⟨atKey_put_same m3 (isK _) _ _, by rw [has_put_same m3 (isK _)]; rfl⟩
  rw [atKey_put_other (ne _ h4), has_put_other (ne _ h4)]
  by_cases h3 : l = kDeny
  · subst h3
    exact ⟨atKey_put_same m2 (isK _) _ _, by rw [has_put_same m2 (isK _)]; rfl⟩
  rw [atKey_put_other (ne _ h3), has_put_other (ne _ h3)]
  by_cases h2 : l = kAllow
  · subst h2
    exact ⟨atKey_put_same m1 (isK _) _ _, by rw [has_put_same m1 (isK _)]; rfl⟩
  rw [atKey_put_other (ne _ h2), has_put_other (ne _ h2)]
  by_cases h1 : l = kDefault
  · subst h1
    exact ⟨atKey_put_same m0 (isK _) _ _, by rw [has_put_same m0 (isK _)]; rfl⟩
  rw [atKey_put_other (ne _ h1), has_put_other (ne _ h1)]
  constructor
  · unfold codeT
    rw [if_neg h1, if_neg h2, if_neg h3, if_neg h4]
    rfl
  · unfold isT
    rw [decide_eq_false (fun h => h.elim h1 (fun h => h.elim h2 (fun h => h.elim h3 h4)))]
    simp [Maps.has]
set_option linter.unusedSimpArgs false in
set_option maxRecDepth 100000 in
set_option maxHeartbeats 4000000 in
theorem readers_any (w : World) : Calls Tryz.prog 59 #[] w fun e w' => ∃ t, e = .returned (.map (some t)) ∧ TabI w' t ∧ w.heap.size ≤ t ∧ Below w.heap.size w w' := by
  have hmm := @run_makeMap Tryz.prog
  obtain ⟨w1, hw1⟩ : ∃ w1, w.alloc (.map #[] 0) = w1 := ⟨_, rfl⟩
  obtain ⟨t, ht⟩ : ∃ t, w.heap.size = t := ⟨_, rfl⟩
  have m1 : w1.ownsMap Tryz.prog 9 fnE t 0 (.map []) := by rw [← hw1, ← ht]; exact World.ownsMap_made w _ _ _
  have l1 : Below w.heap.size w w1 := by rw [← hw1]; exact (Below.refl _ _).alloc (Nat.le_refl _) _
  obtain ⟨w2, r1, m2, t1⟩ := m1.store keyedS undTb (by decide) (keyS9 kDefault (by decide)) (fnE_mk 100)
  obtain ⟨w3, r2, m3, t2⟩ := m2.store keyedS undTb (by decide) (keyS9 kAllow (by decide)) (fnE_mk 101)
  obtain ⟨w4, r3, m4, t3⟩ := m3.store keyedS undTb (by decide) (keyS9 kDeny (by decide)) (fnE_mk 103)
  obtain ⟨w5, r4, m5, t4⟩ := m4.store keyedS undTb (by decide) (keyS9 kPin (by decide)) (fnE_mk 104)
  have kb : ∀ {a c : World}, a.mapTurned c t → But [t] a c := fun h => but_grown h.grown
  have HB := Lib.hid (show But [t] w1 w5 from (((kb t1).trans (kb t2)).trans (kb t3)).trans (kb t4))
  have HL := Lib.hid l1
  have HT := Lib.hid (show TabI w5 t from ⟨_, _, m5, tab_four⟩)
  have HTt := Lib.hid ht
  have q1 : (Instr.mapUpdate 101 (.map (some t)) (.string ⟨#[100, 101, 102, 97, 117, 108, 116]⟩) (.func (.func 100) #[] #[])).run Tryz.prog w1 = .ok () w2 := r1
  have q2 : (Instr.mapUpdate 101 (.map (some t)) (.string ⟨#[97, 108, 108, 111, 119]⟩) (.func (.func 101) #[] #[])).run Tryz.prog w2 = .ok () w3 := r2
  have q3 : (Instr.mapUpdate 101 (.map (some t)) (.string ⟨#[100, 101, 110, 121]⟩) (.func (.func 103) #[] #[])).run Tryz.prog w3 = .ok () w4 := r3
  have q4 : (Instr.mapUpdate 101 (.map (some t)) (.string ⟨#[112, 105, 110]⟩) (.func (.func 104) #[] #[])).run Tryz.prog w4 = .ok () w5 := r4
  clear m1 l1 r1 r2 r3 r4 m2 m3 m4 m5 t1 t2 t3 t4 kb
  go_enter Tryz.func59, Tryz.ntmps59
  go_wp2_with fail
  go_ret
  refine ⟨t, rfl, HT.out, by rw [HTt.out]; exact Nat.le_refl _, HL.out.trans (HB.out.below (fun i hi => ?_) HL.out.size)⟩
  rw [List.mem_singleton.1 hi, HTt.out]
  exact Nat.le_refl _
theorem rule_true {B : Nat} {w : World} {d x : Nat} {S : List Nat} {p : Pol} {ws : List (List UInt8)} (hE : Ad.Env B w) (hD : DrP w d S p) (hge : ∀ i ∈ S, B ≤ i) (hBx : B ≤ x) (hxS : x ∉ S) (hW : WdI w x ws false) :
    Calls Tryz.prog 101 #[.pointer (some ⟨d, 0, none⟩), .pointer (some ⟨x, 0, none⟩)] w (RdP w d x S p ((ruleS true ws).map .ru)) := by
  have HR := Lib.hid (readRule_any true hE hD hge hBx hxS hW)
  clear hE hD hge hBx hxS hW
  go_enter Tryz.func101, Tryz.ntmps101
  go_wp2_with fail
  refine HR.out.mono ?_
  rintro e w1 ⟨S', rfl, h⟩
  have HH := Lib.hid h
  clear h HR
  go_wp2_with fail
  go_ret
  exact ⟨S', rfl, HH.out⟩
theorem rule_false {B : Nat} {w : World} {d x : Nat} {S : List Nat} {p : Pol} {ws : List (List UInt8)} (hE : Ad.Env B w) (hD : DrP w d S p) (hge : ∀ i ∈ S, B ≤ i) (hBx : B ≤ x) (hxS : x ∉ S) (hW : WdI w x ws false) :
    Calls Tryz.prog 103 #[.pointer (some ⟨d, 0, none⟩), .pointer (some ⟨x, 0, none⟩)] w (RdP w d x S p ((ruleS false ws).map .ru)) := by
  have HR := Lib.hid (readRule_any false hE hD hge hBx hxS hW)
  clear hE hD hge hBx hxS hW
  go_enter Tryz.func103, Tryz.ntmps103
  go_wp2_with fail
  refine HR.out.mono ?_
  rintro e w1 ⟨S', rfl, h⟩
  have HH := Lib.hid h
  clear h HR
  go_wp2_with fail
  go_ret
  exact ⟨S', rfl, HH.out⟩
/-- what reading a line leaves -/
def LnP (w : World) (d : Nat) (S : List Nat) (p : Pol) (o : Option Eff) (e : Ending) (w' : World) : Prop :=
  ∃ S', e = .returned (.int .i64 (effE p o)) ∧ (effE p o = 0 → DrP w' d S' (appO p o)) ∧ (∀ i ∈ S', i ∈ S ∨ w.heap.size ≤ i) ∧ But S w w'
theorem eff_hash {c : List UInt8} (r : List (List UInt8)) (h : c.head? = some 35) : effS (c :: r) = some .keep := by rw [eff_cons, if_pos h]
/-- the reader of a first word -/
theorem eff_read {c : List UInt8} (r : List (List UInt8)) (h : ¬ c.head? = some 35) : effS (c :: r) = if c = kDefault then defO r else if c = kAllow then (ruleS true r).map .ru else if c = kDeny then (ruleS false r).map .ru else if c = kPin then (pinS r).map .pn else none := by
  rw [eff_cons, if_neg h]
  rfl
set_option linter.unusedSimpArgs false in
set_option maxRecDepth 100000 in
set_option maxHeartbeats 8000000 in
theorem readLine_any {B : Nat} {w : World} {d t : Nat} {S : List Nat} {p : Pol} (hE : Ad.Env B w) (hD : DrP w d S p) (hge : ∀ i ∈ S, B ≤ i) (hT : TabI w t) (l : List UInt8) (hl : l.length ≤ 1000000) :
    Calls Tryz.prog 61 #[.pointer (some ⟨d, 0, none⟩), .map (some t), .string (str l)] w (LnP w d S p (effS (wordsS l))) := by
  obtain ⟨w1, hw1⟩ : ∃ w1, w.alloc (.cells (wdC l false) 157) = w1 := ⟨_, rfl⟩
  have hb1 : Below w.heap.size w w1 := by rw [← hw1]; exact (Below.refl _ _).alloc (Nat.le_refl _) _
  have hW1 : WdI w1 w.heap.size (wordsS l) false := ⟨l, by rw [← hw1]; exact Blk.new w _ _, rfl, hl⟩
  obtain ⟨ws, hws⟩ : ∃ ws, wordsS l = ws := ⟨_, rfl⟩
  rw [hws] at hW1 ⊢
  have HW1 := Lib.hid hw1
  have HL := Lib.hid hW1.len
  have HNe := Lib.hid hW1.ne
  have HN := Lib.hid (next_any hW1)
  obtain ⟨x, hx⟩ : ∃ x, w.heap.size = x := ⟨_, rfl⟩
  rw [hx] at HN
  have hxS : x ∉ S := fun hm => by have := hD.lts x hm; omega
  have hxt : t ≠ x := by have := hT.lt; omega
  have HX := Lib.hid hx
  have HxS := Lib.hid (And.intro hxS hxt)
  have HE := Lib.hid (hE.on hb1)
  have HD := Lib.hid (hD.on hb1)
  have HR0 := Lib.hid hD
  have HGe := Lib.hid hge
  have HT := Lib.hid (show TabI w1 t from hT.but (S := []) (But.of_below hb1 []) (fun hm => by cases hm))
  have HBx := Lib.hid (show B ≤ x from by rw [← hx]; exact hE.le)
  have HB1 := Lib.hid hb1
  -- the ends
  have HKeep := Lib.hid (fun (w' : World) (hk : But [x] w1 w') (ho : effS ws = some .keep) => show LnP w d S p (effS ws) (.returned (.int .i64 0)) w' from by
    rw [ho]
    have hk2 : But S w w' := but_more (But.of_below HB1.out S) hk (fun i hi => .inr (by rw [List.mem_singleton.1 hi, HX.out]; exact Nat.le_refl _))
    have hd2 := HD.out.but hk (fun i hi hm => HxS.out.1 (by rw [← List.mem_singleton.1 hm]; exact hi))
    exact ⟨S, by show _ = Ending.returned (.int .i64 (rightP p)); rw [HR0.out.1], fun _ => hd2, fun _ hi => .inl hi, hk2⟩)
  have HNone := Lib.hid (fun (w' : World) (hk : But [x] w1 w') (ho : effS ws = none) => show LnP w d S p (effS ws) (.returned (.int .i64 3)) w' from by
    rw [ho]
    have hk2 : But S w w' := but_more (But.of_below HB1.out S) hk (fun i hi => .inr (by rw [List.mem_singleton.1 hi, HX.out]; exact Nat.le_refl _))
    exact ⟨S, rfl, fun h9 => absurd (show (3 : Int) = 0 from h9) (by decide), fun _ hi => .inl hi, hk2⟩)
  have HRead := Lib.hid (fun (u w' : World) (e : Ending) (hk : But [x] w1 u) (h : RdP u d x S p (effS ws) e w') => show LnP w d S p (effS ws) e w' from by
    have hk2 : But S w u := but_more (But.of_below HB1.out S) hk (fun i hi => .inr (by rw [List.mem_singleton.1 hi, HX.out]; exact Nat.le_refl _))
    obtain ⟨S', a, b, c, f⟩ := h
    refine ⟨S', a, b, fun i hi => (c i hi).imp id (fun h9 => Nat.le_trans hk2.size h9), but_more hk2 f (fun i hi => ?_)⟩
    rcases List.mem_cons.1 hi with rfl | hi
    · exact .inr (by rw [HX.out]; exact Nat.le_refl _)
    · exact .inl hi)
  clear hE hD hge hT hl hw1 hb1 hW1 hws hxS hxt HR0
  go_enter Tryz.func61, Tryz.ntmps61
  go_wp2_with fail
  rw [show w.alloc (.cells #[.string (str l), .bool false] 157) = w1 from HW1.out]
  refine HN.out.mono ?_
  rintro e w2 ⟨rfl, h2, hb2⟩
  have H2 := Lib.hid h2
  have HB2 := Lib.hid hb2
  clear h2 hb2 HN hx HW1
  match hws : ws with
  | [] =>
    have HK := Lib.hid (HKeep.out _ HB2.out rfl)
    clear HKeep HNone HRead
    have he : (headW []).isEmpty = true := rfl
    go_wp2_with fail
    go_ret
    exact HK.out
  | c :: r =>
  have hc0 : c ≠ [] := HNe.out c (by simp)
  have hce : c.isEmpty = false := by cases c with | nil => exact absurd rfl hc0 | cons _ _ => rfl
  have e1 : headW (c :: r) = c := rfl
  have e2 : (c :: r).tail = r := rfl
  rw [e1] at HL
  rw [e2] at H2
  rw [e1]
  clear hc0 e1 e2 hws
  have HP := Lib.hid (fun w' => Nm.pre_any (str c) 35 w')
  rw [bs_str] at HP
  by_cases hh : c.head? = some 35
  · rw [decide_eq_true hh] at HP
    have HK := Lib.hid (HKeep.out _ HB2.out (eff_hash r hh))
    clear HKeep HNone HRead hh
    go_wp2_with fail
    refine (HP.out _).mono ?_
    rintro e w3 ⟨rfl, rfl⟩
    go_wp2_with fail
    go_ret
    exact HK.out
  rw [decide_eq_false hh] at HP
  have HEf := Lib.hid (eff_read r hh)
  clear hh HKeep
  go_wp2_with fail
  refine (HP.out _).mono ?_
  rintro e w3 ⟨rfl, rfl⟩
  have HT2 := Lib.hid (HT.out.but HB2.out (fun hm => HxS.out.2 (List.mem_singleton.1 hm)))
  obtain ⟨v, ps, hlk, hv⟩ := tab_look HT2.out c HL.out
  have HVv := Lib.hid hv
  clear hv HP
  have HD2 := Lib.hid (HD.out.but HB2.out (fun i hi hm => HxS.out.1 (by rw [← List.mem_singleton.1 hm]; exact hi)))
  have HE2 := Lib.hid (HE.out.below (HB2.out.below (fun i hi => by rw [List.mem_singleton.1 hi]; exact HBx.out) HE.out.le))
  by_cases k1 : c = kDefault
  · have HEq : Hid (effS (c :: r) = defO r) := Lib.hid (HEf.out.trans (if_pos k1))
    obtain rfl := fnE_inv (f := 100) (ps := ps) (by rw [HVv.out, k1]; rfl)
    have HQ := Lib.hid (readDefault_any HD2.out HxS.out.1 H2.out)
    rw [← HEq.out] at HQ
    have hi : isT c = true := by rw [k1]; rfl
    rw [hi] at hlk
    clear hi k1 
    go_wp2_with fail
    refine HQ.out.mono ?_
    rintro e w4 hr
    obtain ⟨S', rfl, hr'⟩ := hr
    have HF := Lib.hid (HRead.out _ _ _ HB2.out ⟨S', rfl, hr'⟩)
    clear hr' HQ hlk
    go_wp2_with fail
    go_ret
    exact HF.out
  by_cases k2 : c = kAllow
  · have HEq : Hid (effS (c :: r) = (ruleS true r).map .ru) := Lib.hid ((HEf.out.trans (if_neg k1)).trans (if_pos k2))
    obtain rfl := fnE_inv (f := 101) (ps := ps) (by rw [HVv.out, k2]; rfl)
    have HQ := Lib.hid (rule_true HE2.out HD2.out HGe.out HBx.out HxS.out.1 H2.out)
    rw [← HEq.out] at HQ
    have hi : isT c = true := by rw [k2]; rfl
    rw [hi] at hlk
    clear hi k2 k1
    go_wp2_with fail
    refine HQ.out.mono ?_
    rintro e w4 hr
    obtain ⟨S', rfl, hr'⟩ := hr
    have HF := Lib.hid (HRead.out _ _ _ HB2.out ⟨S', rfl, hr'⟩)
    clear hr' HQ hlk
    go_wp2_with fail
    go_ret
    exact HF.out
  by_cases k3 : c = kDeny
  · have HEq : Hid (effS (c :: r) = (ruleS false r).map .ru) := Lib.hid (((HEf.out.trans (if_neg k1)).trans (if_neg k2)).trans (if_pos k3))
    obtain rfl := fnE_inv (f := 103) (ps := ps) (by rw [HVv.out, k3]; rfl)
    have HQ := Lib.hid (rule_false HE2.out HD2.out HGe.out HBx.out HxS.out.1 H2.out)
    rw [← HEq.out] at HQ
    have hi : isT c = true := by rw [k3]; rfl
    rw [hi] at hlk
    clear hi k3 k1 k2
    go_wp2_with fail
    refine HQ.out.mono ?_
    rintro e w4 hr
    obtain ⟨S', rfl, hr'⟩ := hr
    have HF := Lib.hid (HRead.out _ _ _ HB2.out ⟨S', rfl, hr'⟩)
    clear hr' HQ hlk
    go_wp2_with fail
    go_ret
    exact HF.out
  by_cases k4 : c = kPin
  · have HEq : Hid (effS (c :: r) = (pinS r).map .pn) := Lib.hid ((((HEf.out.trans (if_neg k1)).trans (if_neg k2)).trans (if_neg k3)).trans (if_pos k4))
    obtain rfl := fnE_inv (f := 104) (ps := ps) (by rw [HVv.out, k4]; rfl)
    have HQ := Lib.hid (readPin_any HE2.out HD2.out HGe.out HBx.out HxS.out.1 H2.out)
    rw [← HEq.out] at HQ
    have hi : isT c = true := by rw [k4]; rfl
    rw [hi] at hlk
    clear hi k4 k1 k2 k3
    go_wp2_with fail
    refine HQ.out.mono ?_
    rintro e w4 hr
    obtain ⟨S', rfl, hr'⟩ := hr
    have HF := Lib.hid (HRead.out _ _ _ HB2.out ⟨S', rfl, hr'⟩)
    clear hr' HQ hlk
    go_wp2_with fail
    go_ret
    exact HF.out
  have hi : isT c = false := by
    unfold isT
    exact decide_eq_false (fun h => h.elim k1 (fun h => h.elim k2 (fun h => h.elim k3 k4)))
  rw [hi] at hlk
  have HF := Lib.hid (HNone.out _ HB2.out ((((HEf.out.trans (if_neg k1)).trans (if_neg k2)).trans (if_neg k3)).trans (if_neg k4)))
  clear hi k1 k2 k3 k4
  go_wp2_with fail
  go_ret
  exact HF.out
end Go.Proofs.YtlpondbcnfaggaaGreatDoor.Po

/-
  Contract of package policy's Parse over this seat's translation: it answers what parseP says. Condition: a text of up to a million bytes.
-/
namespace Go.Proofs.YtlpondbcnfaggaaGreatDoor.Po
open Go.RowKit Go.Shelf Go.Proofs.YtlpondbcnfaggaaGreatDoor.Wd Go.Proofs.YtlpondbcnfaggaaGreatDoor.Asc Go.Proofs.YtlpondbcnfaggaaGreatDoor.Tx Go.Proofs.YtlpondbcnfaggaaGreatDoor.St Go.Proofs.YtlpondbcnfaggaaGreatDoor.Tr Go.Proofs.YtlpondbcnfaggaaGreatDoor.Te Go.Maps

theorem go_eff (l : List UInt8) (ls : List (List UInt8)) (k : Nat) (p : Pol) : goP (l :: ls) k p = if effE p (effS (wordsS l)) ≠ 0 then (Pol.zero, k + 1, effE p (effS (wordsS l))) else goP ls (k + 1) (appO p (effS (wordsS l))) := by
  rw [go_cons]
  cases effS (wordsS l) with
  | none => rfl
  | some e => rfl
theorem own_from {α : Type} {e : El α} {w : World} {B : Nat} {v : Value} {l : List α} (h : OwnE w e 0 v l) (hb : ∀ b, v.ownBlock = some b → B ≤ b) : OwnE w e B v l := by
  obtain ⟨hl, h0 | ⟨g, cap, cur, rfl, _, r⟩⟩ := h
  · exact ⟨hl, .inl h0⟩
  · exact ⟨hl, .inr ⟨g, cap, cur, rfl, hb g rfl, r⟩⟩
def plZ : Array Value := #[.bool false, .slice none 0 0, .slice none 0 0]
/-- what Parse keeps, line by line -/
structure PaI (w : World) (P d t : Nat) (S : List Nat) (p : Pol) (ww : World) : Prop where
  box : Blk ww P 53 plZ
  dr : DrP ww d S p
  tab : TabI ww t
  bel : Below w.heap.size w ww
  ge : ∀ i ∈ S, w.heap.size ≤ i
  nP : P ∉ S
  nt : t ∉ S
  lo : w.heap.size ≤ P
theorem PaI.on {w ww w' : World} {P d t : Nat} {S : List Nat} {p : Pol} (h : PaI w P d t S p ww) (hb : Below ww.heap.size ww w') : PaI w P d t S p w' :=
  ⟨h.box.below hb h.box.lt, h.dr.on hb, h.tab.but (S := []) (But.of_below hb []) (fun hm => by cases hm), h.bel.trans (hb.mono h.bel.size), h.ge, h.nP, h.nt, h.lo⟩
theorem PaI.line {w ww w' : World} {P d t : Nat} {S S' : List Nat} {p q : Pol} (h : PaI w P d t S p ww) (hd : DrP w' d S' q) (hS : ∀ i ∈ S', i ∈ S ∨ ww.heap.size ≤ i) (hk : But S ww w') : PaI w P d t S' q w' := by
  have hz := h.bel.size
  refine ⟨h.box.but hk h.nP, hd, h.tab.but hk h.nt, h.bel.trans (hk.below h.ge hz), fun i hi => ?_, fun hm => ?_, fun hm => ?_, h.lo⟩
  · rcases hS i hi with h1 | h1
    · exact h.ge i h1
    · omega
  · rcases hS P hm with h1 | h1
    · exact h.nP h1
    · have := h.box.lt; omega
  · rcases hS t hm with h1 | h1
    · exact h.nt h1
    · have := h.tab.lt; omega
def mPa : Value → Value → Nat
  | .string s, .bool true => s.size + 1
  | _, _ => 0
/-- what is to come -/
def toCome (more : Bool) (rest : List UInt8) (k : Nat) (p : Pol) : Pol × Nat × Int := if more = true then goP (Ad.splitS 10 rest) k p else (p, 0, 0)
/-- one line is read -/
theorem come_cut (rest : List UInt8) (k : Nat) (p : Pol) : ∃ a b m, Lib.cut rest [10] = (a, b, m) ∧ a.length ≤ rest.length ∧ b.length ≤ rest.length ∧ (m = true → b.length < rest.length) ∧
    toCome true rest k p = if effE p (effS (wordsS a)) ≠ 0 then (Pol.zero, k + 1, effE p (effS (wordsS a))) else toCome m b (k + 1) (appO p (effS (wordsS a))) := by
  rcases first_of (c := 10) rest with h | ⟨a, b, rfl, h⟩
  · refine ⟨rest, [], false, cut_free h, Nat.le_refl _, Nat.zero_le _, fun h => (by cases h), ?_⟩
    unfold toCome
    rw [if_pos rfl, Ad.splitS_free h, go_eff]
    rfl
  · refine ⟨a, b, true, cut_at h, by rw [List.length_append]; omega, by rw [List.length_append, List.length_cons]; omega, fun _ => by rw [List.length_append, List.length_cons]; omega, ?_⟩
    unfold toCome
    rw [if_pos rfl, Ad.splitS_at h, go_eff]
    rfl
/-- what Parse answers -/
def PaP (w : World) (p : Pol) (n : Nat) (er : Int) (e : Ending) (w' : World) : Prop := ∃ A1 c1 A2 c2 pn, e = .returned (.tuple #[.agg #[.bool p.al, .slice A1 p.ru.length c1, .slice A2 p.pn.length c2], .int .i64 (n : Nat), .int .i64 er]) ∧
  OwnU w' w.heap.size (.slice A1 p.ru.length c1) p.ru ∧ OwnE w' elPn w.heap.size (.slice A2 p.pn.length c2) pn ∧ plain pn = p.pn ∧ Below w.heap.size w w'
set_option linter.unusedSimpArgs false in
set_option maxRecDepth 100000 in
set_option maxHeartbeats 16000000 in
theorem parse_any {B : Nat} {w : World} (hE : Ad.Env B w) (s : ByteArray) (hs : s.size ≤ 1000000) (pf : Pol) (nf : Nat) (ef : Int) (h : parseP (bs s) = (pf, nf, ef)) :
    Calls Tryz.prog 32 #[.string s] w (PaP w pf nf ef) := by
  obtain ⟨S0, hS0⟩ : ∃ S0, bs s = S0 := ⟨_, rfl⟩
  have hs2 : s = str S0 := by rw [← hS0, str_bs]
  have hsl : S0.length ≤ 1000000 := by rw [← hS0, bs_length]; exact hs
  subst hs2
  clear hs
  rw [hS0] at h
  have HQ0 := Lib.hid (show toCome true S0 0 Pol.zero = (pf, nf, ef) from by unfold toCome; rw [if_pos rfl]; exact h)
  obtain ⟨w1, hw1⟩ : ∃ w1, w.alloc (.cells #[.bool false, .slice none 0 0, .slice none 0 0] 53) = w1 := ⟨_, rfl⟩
  have hb1 : Below w.heap.size w w1 := by rw [← hw1]; exact (Below.refl _ _).alloc (Nat.le_refl _) _
  have hbox : Blk w1 w.heap.size 53 plZ := by rw [← hw1]; exact Blk.new w _ _
  have HW1 := Lib.hid hw1
  have HB1 := Lib.hid hb1
  have HBox := Lib.hid hbox
  have HDr := Lib.hid (draft_any w1)
  have HRd := Lib.hid (fun w' => readers_any w')
  have HE := Lib.hid (fun w' (hb : Below w.heap.size w w') => hE.on hb)
  have HGe := Lib.hid hE.le
  clear h hw1 hb1 hbox hE hS0
  go_enter Tryz.func32, Tryz.ntmps32
  go_wp2_with fail
  rw [HW1.out]
  refine HDr.out.mono ?_
  rintro e w2 ⟨d, S, rfl, hD, hS, hd, hb2⟩
  have HD2 := Lib.hid (And.intro hD (And.intro hS hd))
  have HB2 := Lib.hid hb2
  clear hD hS hd hb2 HDr HW1
  go_wp2_with fail
  refine (HRd.out _).mono ?_
  rintro e w3 ⟨t, rfl, hT, ht, hb3⟩
  obtain ⟨P, hP⟩ : ∃ P, w.heap.size = P := ⟨_, rfl⟩
  have HI := Lib.hid (show PaI w P d t S Pol.zero w3 from by
    have hz1 := HBox.out.lt
    have hb12 := HB1.out.trans (HB2.out.mono HB1.out.size)
    have hlt := HD2.out.1.lts
    refine ⟨by rw [← hP]; exact (HBox.out.below HB2.out HBox.out.lt).below hb3 (Nat.lt_of_lt_of_le HBox.out.lt HB2.out.size), HD2.out.1.on hb3, hT, hb12.trans (hb3.mono hb12.size), fun i hi => ?_, fun hm => ?_, fun hm => ?_, by omega⟩
    · have := HD2.out.2.1 i hi; omega
    · have := HD2.out.2.1 P hm; omega
    · have := hlt t hm; omega)
  rw [hP]
  have HPp := Lib.hid hP
  clear hT ht hb3 HD2 HB2 HB1 HBox HRd hP
  go_wp2_with fail
  go_loopw [0, 7, 8] (fun x0 x7 x8 wr => ∃ (k : Nat) (rest : List UInt8) (p : Pol) (S : List Nat) (more : Bool) (ww : World), ww = wr ∧ x0 = .string (str rest) ∧ x7 = .int .i64 ((k + 1 : Nat) : Int) ∧ x8 = .bool more ∧ rest.length ≤ 1000000 ∧ k + (if more = true then rest.length + 1 else 0) ≤ 1000001 ∧ Hid (PaI w P d t S p ww) ∧ Hid (toCome more rest k p = (pf, nf, ef))) (fun x0 _ x8 _ => mPa x0 x8)
  case atStart => exact ⟨0, S0, Pol.zero, S, true, _, rfl, rfl, rfl, rfl, hsl, by simp; omega, HI, HQ0⟩
  case round =>
    obtain ⟨k, rest, p, S, more, ww, rfl, rfl, rfl, rfl, hrl, hkm, HI, HQ⟩ := hrel
    cases more with
    | false =>
      have hq : (p, 0, (0 : Int)) = (pf, nf, ef) := HQ.out
      injection hq with q1 q2
      injection q2 with q2 q3
      subst q1 q2 q3
      obtain ⟨hr, ps, v1, v2, g, St, b, n, D, hps, hI⟩ := HI.out.dr
      obtain ⟨A1, c1, hv1, _, _, _⟩ := hI.rul.src fineU
      obtain ⟨A2, c2, hv2, _, _, _⟩ := hI.pin.src finePn
      have hpl : ps.length = p.pn.length := by rw [← hps]; simp [plain]
      rw [hpl] at hv2
      have HO1 := Lib.hid (own_from hI.rul (fun b hb => HI.out.ge b (hI.in1 b hb)))
      have HO2 := Lib.hid (own_from hI.pin (fun b hb => HI.out.ge b (hI.in2 b hb)))
      have HPs := Lib.hid hps
      subst hv1 hv2
      have hrg : ww.rangeAt d 0 [.bool p.al, .slice A1 p.ru.length c1, .slice A2 p.pn.length c2] := fun j v hj => by
        match j, hj with
        | 0, hj => rw [← hj]; exact hI.blk.cell 0
        | 1, hj => rw [← hj]; exact hI.blk.cell 1
        | 2, hj => rw [← hj]; exact hI.blk.cell 2
        | j + 3, hj => simp at hj
      have hbx := HI.out.box
      have HBe := Lib.hid HI.out.bel
      have HLo := Lib.hid (And.intro HI.out.lo HI.out.nP)
      have HI1 := Lib.hid (And.intro hI.in1 hI.in2)
      clear hr hI hps hpl HQ HQ0 hkm hrl
      go_wp2_with (first | (refine wpList_load_mid rfl 53 _ rfl d 0 rfl [.bool p.al, .slice A1 p.ru.length c1, .slice A2 p.pn.length c2] _ hrg undPo rfl infPo ?_) | (refine go_st 53 hbx infPo rfl rfl (plV_one p.al _ _ _ _ _ _) rfl rfl rfl rfl ?_))
      refine ret_three Tryz.results32 (setRow_blk hbx) undPo rfl infPo rfl rfl rfl rfl ?_ rfl
      have k9 : But [P] ww (ww.setRow P (plV p.al A1 p.ru.length c1 A2 p.pn.length c2)) := (But.refl [P] ww).row (.inl (by simp)) _
      exact ⟨A1, c1, A2, c2, ps, rfl, HO1.out.but k9 (fun b hb hm => HLo.out.2 (by rw [← List.mem_singleton.1 hm]; exact HI1.out.1 b hb)), HO2.out.but k9 (fun b hb hm => HLo.out.2 (by rw [← List.mem_singleton.1 hm]; exact HI1.out.2 b hb)), HPs.out, setRow_below HBe.out hbx HLo.out.1 _⟩
    | true =>
      obtain ⟨a, b, m, hcut, ha, hb, hm, hcome⟩ := come_cut rest k p
      rw [HQ.out] at hcome
      have HCo := Lib.hid hcome
      have HCut := Lib.hid (fun w' hE' => Ad.cut_any (B := B) rest [10] w' hE' (by omega))
      rw [hcut] at HCut
      obtain ⟨er, her⟩ : ∃ er, effE p (effS (wordsS a)) = er := ⟨_, rfl⟩
      rw [her] at HCo
      have HLn := Lib.hid (fun w' (hb : Below ww.heap.size ww w') => readLine_any (HE.out _ (HI.out.on hb).bel) (HI.out.on hb).dr (fun i hi => Nat.le_trans HGe.out (HI.out.ge i hi)) (HI.out.on hb).tab a (by omega))
      unfold LnP at HLn
      rw [her] at HLn
      have HM := Lib.hid hm
      clear hcome hcut her HQ hm
      have hk9 : (k : Int) ≤ 1000000 := by simp at hkm; omega
      go_wp2_with fail
      refine (HCut.out _ (HE.out _ HI.out.bel)).mono ?_
      rintro e w5 ⟨rfl, hb5⟩
      have HI5 := Lib.hid (HI.out.on hb5)
      have HB5 := Lib.hid hb5
      clear hb5 HCut
      go_wp2_with fail
      refine (HLn.out _ HB5.out).mono ?_
      rintro e w6 ⟨S', rfl, hd, hS, hk⟩
      by_cases he : er = 0
      · subst he
        have hq : toCome m b (k + 1) (appO p (effS (wordsS a))) = (pf, nf, ef) := (HCo.out.trans (if_neg (by simp))).symm
        have HQ6 := Lib.hid hq
        have HI6 := Lib.hid (HI5.out.line (hd rfl) hS hk)
        clear hd hS hk HI5 HLn HI hq HB5
        go_wp2_with fail
        go_roundw
        case rel => exact ⟨k + 1, b, appO p (effS (wordsS a)), S', m, _, rfl, rfl, congrArg (Value.int IntKind.i64) (by omega), rfl, by omega, by
          cases m with
          | true => have := HM.out rfl; simp; simp at hkm; omega
          | false => simp; simp at hkm; omega, HI6, HQ6⟩
        case measure =>
          cases m with
          | true => have := HM.out rfl; simp [mPa, str_size]; omega
          | false => simp [mPa]
      · have HQ6 := Lib.hid (HCo.out.trans (if_pos he))
        have hne : (er != 0) = true := by rw [bne_iff_ne]; exact he
        have hq := HQ6.out
        injection hq with q1 q2
        injection q2 with q2 q3
        subst q1 q2 q3
        have hbx := HI5.out.box.but hk HI5.out.nP
        have HBe := Lib.hid (HI5.out.bel.trans (hk.below HI5.out.ge HI5.out.bel.size))
        have HLo := Lib.hid HI5.out.lo
        clear hd hS hk HI5 HLn HI HQ6 HCo HB5 HQ0 he
        go_wp2_with (refine go_st 53 hbx infPo rfl rfl (plV_one false _ _ _ _ _ _) rfl rfl rfl rfl ?_)
        refine ret_three Tryz.results32 (setRow_blk hbx) undPo rfl infPo rfl rfl rfl rfl ?_ rfl
        exact ⟨none, 0, none, 0, [], rfl, OwnU.nil_ _ _, OwnE.nil _ _ _, rfl, setRow_below HBe.out hbx HLo.out _⟩
end Go.Proofs.YtlpondbcnfaggaaGreatDoor.Po

/-
  Contract of package policy's Right over this seat's translation: it answers what rightP says. Condition: texts of up to a million bytes.
-/
namespace Go.Proofs.YtlpondbcnfaggaaGreatDoor.Po
open Go.RowKit Go.Shelf Go.Proofs.YtlpondbcnfaggaaGreatDoor.Wd Go.Proofs.YtlpondbcnfaggaaGreatDoor.Asc Go.Proofs.YtlpondbcnfaggaaGreatDoor.Tx Go.Proofs.YtlpondbcnfaggaaGreatDoor.St Go.Proofs.YtlpondbcnfaggaaGreatDoor.Tr Go.Proofs.YtlpondbcnfaggaaGreatDoor.Te Go.Maps

/-- what Right keeps: its own box, the draft -/
structure RiI (w : World) (P d : Nat) (S : List Nat) (C : Array Value) (q : Pol) (ww : World) : Prop where
  box : Blk ww P 53 C
  dr : DrP ww d S q
  bel : Below w.heap.size w ww
  ge : ∀ i ∈ S, w.heap.size ≤ i
  nP : P ∉ S
section
variable {w ww w' : World} {P d : Nat} {S S' : List Nat} {C : Array Value} {q q' : Pol}
theorem RiI.on (h : RiI w P d S C q ww) (hb : Below ww.heap.size ww w') : RiI w P d S C q w' :=
  ⟨h.box.below hb h.box.lt, h.dr.on hb, h.bel.trans (hb.mono h.bel.size), h.ge, h.nP⟩
theorem RiI.turn (h : RiI w P d S C q ww) (hd : DrP w' d S' q') (hS : ∀ i ∈ S', i ∈ S ∨ ww.heap.size ≤ i) (hk : But S ww w') : RiI w P d S' C q' w' := by
  have hz := h.bel.size
  refine ⟨h.box.but hk h.nP, hd, h.bel.trans (hk.below h.ge hz), fun i hi => ?_, fun hm => ?_⟩
  · rcases hS i hi with h1 | h1
    · exact h.ge i h1
    · omega
  · rcases hS P hm with h1 | h1
    · exact h.nP h1
    · have := h.box.lt; omega
end
/-- a rule, a pin, in a new block -/
theorem box_row {w : World} (t : Nat) (Z C : Array Value) : ∃ w1, (w.alloc (.cells Z t)).setRow w.heap.size C = w1 ∧ Blk w1 w.heap.size t C ∧ Below w.heap.size w w1 :=
  ⟨_, rfl, setRow_blk (Blk.new _ _ _), setRow_below ((Below.refl _ _).alloc (Nat.le_refl _) _) (Blk.new _ _ _) (Nat.le_refl _) _⟩
theorem rules_step {l : List Ru} {k : Nat} {r : Ru} (h : l[k]? = some r) : rulesE (l.take k) (l.drop k) = if addE (l.take k) r ≠ 0 then addE (l.take k) r else rulesE (l.take (k + 1)) (l.drop (k + 1)) := by
  obtain ⟨hk, e⟩ := List.getElem?_eq_some_iff.1 h
  rw [List.drop_eq_getElem_cons hk, e, List.take_add_one, h]
  rfl
theorem pins_step {l : List Pn} {k : Nat} {x : Pn} (h : l[k]? = some x) : pinsE (l.take k) (l.drop k) = if pinE (l.take k) x ≠ 0 then pinE (l.take k) x else pinsE (l.take (k + 1)) (l.drop (k + 1)) := by
  obtain ⟨hk, e⟩ := List.getElem?_eq_some_iff.1 h
  rw [List.drop_eq_getElem_cons hk, e, List.take_add_one, h]
  rfl
set_option linter.unusedSimpArgs false in
set_option maxRecDepth 100000 in
set_option maxHeartbeats 16000000 in
theorem right_any {B : Nat} {w : World} (hE : Ad.Env B w) (p : Pol) (A1 A2 : Option Addr) (n1 c1 n2 c2 : Nat) (pn : List Pl) (hs1 : SrcU w A1 p.ru) (hn1 : p.ru.length = n1) (hs2 : SrcE w elPn A2 pn) (hpn : plain pn = p.pn) (hn2 : p.pn.length = n2)
    (hm1 : n1 ≤ 1000000) (hm2 : n2 ≤ 1000000) (hsh : ShortP p) (hok : ∀ x ∈ pn, OkP x) :
    Calls Tryz.prog 31 #[.agg #[.bool p.al, .slice A1 n1 c1, .slice A2 n2 c2]] w fun e w' => e = .returned (.int .i64 (rightP p)) ∧ Below w.heap.size w w' := by
  obtain ⟨RU, hru⟩ : ∃ RU, rulesE [] p.ru = RU := ⟨_, rfl⟩
  obtain ⟨RP, hrp⟩ : ∃ RP, pinsE [] p.pn = RP := ⟨_, rfl⟩
  have HRi := Lib.hid (show rightP p = if RU ≠ 0 then RU else if 200 < n2 then 2 else RP from by unfold rightP; rw [hru, hrp, hn2])
  have HQ0 := Lib.hid (show rulesE (p.ru.take 0) (p.ru.drop 0) = RU from hru)
  have HP0 := Lib.hid (show pinsE (p.pn.take 0) (p.pn.drop 0) = RP from hrp)
  have HN1 := Lib.hid hn1
  have HN2 := Lib.hid (show pn.length = n2 from by rw [← hn2, ← hpn]; simp [plain])
  have HPn := Lib.hid (fun (k : Nat) (x : Pl) (h : pn[k]? = some x) => show p.pn[k]? = some x.1 from by rw [← hpn]; unfold plain; rw [List.getElem?_map, h]; rfl)
  have HN3 := Lib.hid hn2
  have HSh := Lib.hid hsh
  have HOk := Lib.hid hok
  have HS1 := Lib.hid hs1
  have HS2 := Lib.hid hs2
  obtain ⟨w1, hw1⟩ : ∃ w1, w.alloc (.cells (plV p.al A1 n1 c1 A2 n2 c2) 53) = w1 := ⟨_, rfl⟩
  have hb1 : Below w.heap.size w w1 := by rw [← hw1]; exact (Below.refl _ _).alloc (Nat.le_refl _) _
  have hbox : Blk w1 w.heap.size 53 (plV p.al A1 n1 c1 A2 n2 c2) := by rw [← hw1]; exact Blk.new w _ _
  have HW1 := Lib.hid hw1
  have HB1 := Lib.hid hb1
  have HBox := Lib.hid hbox
  have HDr := Lib.hid (draft_any w1)
  have HE := Lib.hid (fun w' (hb : Below w.heap.size w w') => hE.on hb)
  have HGe := Lib.hid hE.le
  clear hw1 hb1 hbox hE hs1 hs2 hn1 hn2 hpn hsh hok hru hrp
  go_enter Tryz.func31, Tryz.ntmps31
  go_wp2_with fail
  rw [show w.alloc (.cells #[.bool p.al, .slice A1 n1 c1, .slice A2 n2 c2] 53) = w1 from HW1.out]
  refine HDr.out.mono ?_
  rintro e w2 ⟨d, S, rfl, hD, hS, hd, hb2⟩
  obtain ⟨P, hP⟩ : ∃ P, w.heap.size = P := ⟨_, rfl⟩
  have HI := Lib.hid (show RiI w P d S (plV p.al A1 n1 c1 A2 n2 c2) ⟨false, p.ru.take 0, []⟩ w2 from by
    have hz1 := HBox.out.lt
    refine ⟨by rw [← hP]; exact HBox.out.below hb2 HBox.out.lt, hD, HB1.out.trans (hb2.mono HB1.out.size), fun i hi => ?_, fun hm => ?_⟩
    · have := hS i hi; omega
    · have := hS P hm; omega)
  rw [hP]
  clear hD hS hd hb2 HDr HW1 HBox HB1 hP
  have v1 : w2.cell? ⟨P, 1, none⟩ = some (.slice A1 n1 c1) := HI.out.box.cell 1
  go_wp2_with fail
  clear v1
  go_loopw [14] (fun x14 wr => ∃ (k : Nat) (S : List Nat) (ww : World), ww = wr ∧ k ≤ n1 ∧ x14 = .int .i64 (k : Nat) ∧ Hid (RiI w P d S (plV p.al A1 n1 c1 A2 n2 c2) ⟨false, p.ru.take k, []⟩ ww) ∧ Hid (rulesE (p.ru.take k) (p.ru.drop k) = RU)) (fun x14 _ => n1 - (intOf x14).toNat)
  case atStart => exact ⟨0, S, _, rfl, Nat.zero_le _, rfl, HI, HQ0⟩
  case round =>
    clear HI
    obtain ⟨k, S, ww, rfl, hk, rfl, HI, HQ⟩ := hrel
    by_cases hlt : k < n1
    · have hki : (k : Int) < (n1 : Int) := by omega
      obtain ⟨r, g, o, hr, rfl, hg, hra⟩ := HS1.out.get (wr := ww) (k := k) (by rw [HN1.out]; exact hlt) HI.out.bel
      have HQ2 := Lib.hid ((rules_step hr).symm.trans HQ.out)
      have HTk := Lib.hid (show p.ru.take (k + 1) = p.ru.take k ++ [r] from by rw [List.take_add_one, hr]; rfl)
      have HRm := Lib.hid (HSh.out.1 r (List.mem_of_getElem? hr))
      obtain ⟨w3, hw3, hb3, hl3⟩ := box_row (w := ww) 23 #[.bool false, .int .i64 0, .string ⟨#[]⟩, .int .i64 0, .string ⟨#[]⟩] (ruC r)
      have HW3 := Lib.hid hw3
      have HI3 := Lib.hid (HI.out.on hl3)
      have HA := Lib.hid (addRule_any (HE.out _ HI3.out.bel) HI3.out.dr (fun i hi => Nat.le_trans HGe.out (HI3.out.ge i hi)) r HRm.out.1 HRm.out.2)
      unfold DoP at HA
      obtain ⟨er, her⟩ : ∃ er, addE (p.ru.take k) r = er := ⟨_, rfl⟩
      have HA : Hid (Calls Tryz.prog 57 #[.pointer (some ⟨d, 0, none⟩), .agg (ruC r)] w3 fun e w' => ∃ S', e = .returned (.int .i64 er) ∧ (er = 0 → DrP w' d S' ⟨false, p.ru.take (k + 1), []⟩) ∧ (∀ i ∈ S', i ∈ S ∨ w3.heap.size ≤ i) ∧ But S w3 w') := by
        rw [HTk.out, ← her]
        exact HA
      rw [her] at HQ2
      clear hr hg hw3 hl3 HI HQ her
      go_upto_region 5 with (first | (refine go_ldr r hra (by rfl) rfl (by first | rfl | (go_simp; done)) ?_) | (refine go_st 23 (Blk.new _ _ _) infU rfl (ruC_size _) (ruC_one _) rfl rfl rfl rfl ?_))
      rw [HW3.out]
      clear hra HW3
      go_wp2_with (refine go_ld (x := .tmp 5) 23 hb3 undU rfl infU (ruC_size _) rfl rfl rfl ?_)
      refine HA.out.mono ?_
      rintro e w4 ⟨S', rfl, hd, hS, hk4⟩
      by_cases he : er = 0
      · subst he
        have HI4 := Lib.hid (HI3.out.turn (hd rfl) hS hk4)
        have hq : rulesE (p.ru.take (k + 1)) (p.ru.drop (k + 1)) = RU := (if_neg (by simp)).symm.trans HQ2.out
        have HQ4 := Lib.hid hq
        clear hd hS hk4 HI3 HA HQ2 hb3 hq
        go_wp2_with fail
        go_roundw
        case rel => exact ⟨k + 1, S', _, rfl, by omega, rfl, HI4, HQ4⟩
        case measure => simp [intOf]; omega
      · have hne : (er != 0) = true := by rw [bne_iff_ne]; exact he
        have HB4 := Lib.hid (HI3.out.bel.trans (hk4.below HI3.out.ge HI3.out.bel.size))
        have HZ := Lib.hid (show rightP p = er from by
          have h1 : er = RU := (if_pos he).symm.trans HQ2.out
          rw [HRi.out, ← h1, if_pos he])
        clear hd hS hk4 HI3 HA HQ2 hb3 he
        go_wp2_with fail
        go_ret
        exact ⟨by rw [HZ.out]; rfl, HB4.out⟩
    · obtain rfl : k = n1 := by omega
      have hki : ¬ (k : Int) < (k : Int) := by omega
      have hru0 : RU = 0 := by
        have h1 := HQ.out
        rw [List.drop_of_length_le (by rw [HN1.out]; exact Nat.le_refl _)] at h1
        exact h1.symm
      have HRi := Lib.hid (show rightP p = if 200 < n2 then 2 else RP from by rw [HRi.out, hru0]; rfl)
      have HTk : p.ru.take k = p.ru := List.take_of_length_le (by rw [HN1.out]; exact Nat.le_refl _)
      rw [HTk] at HI
      clear hru0 HQ HTk hlt
      have v2 : ww.cell? ⟨P, 2, none⟩ = some (.slice A2 n2 c2) := HI.out.box.cell 2
      by_cases h200 : 200 < n2
      · have h2 : (200 : Int) < (n2 : Int) := by omega
        have HZ := Lib.hid (HRi.out.trans (if_pos h200))
        have HB4 := Lib.hid HI.out.bel
        clear h200
        go_wp2_with fail
        go_ret
        exact ⟨by rw [HZ.out]; rfl, HB4.out⟩
      have h2 : ¬ (200 : Int) < (n2 : Int) := by omega
      have HZ := Lib.hid (HRi.out.trans (if_neg h200))
      have HI : Hid (RiI w P d S (plV p.al A1 k c1 A2 n2 c2) ⟨false, p.ru, p.pn.take 0⟩ ww) := HI
      go_wp2_with fail
      clear v2 h2
      go_loopw [32] (fun x32 wr => ∃ (j : Nat) (S : List Nat) (ww : World), ww = wr ∧ j ≤ n2 ∧ x32 = .int .i64 (j : Nat) ∧ Hid (RiI w P d S (plV p.al A1 k c1 A2 n2 c2) ⟨false, p.ru, p.pn.take j⟩ ww) ∧ Hid (pinsE (p.pn.take j) (p.pn.drop j) = RP)) (fun x32 _ => n2 - (intOf x32).toNat)
      case atStart => exact ⟨0, S, _, rfl, Nat.zero_le _, rfl, HI, HP0⟩
      case round =>
        clear HI
        obtain ⟨j, S, ww, rfl, hj, rfl, HI, HQ⟩ := hrel
        by_cases hlt : j < n2
        · have hji : (j : Int) < (n2 : Int) := by omega
          obtain ⟨x, g, o, hx, rfl, hg, hra⟩ := HS2.out.pin (wr := ww) (k := j) (by rw [HN2.out]; exact hlt) HI.out.bel
          have hx2 := HPn.out j x hx
          have HQ2 := Lib.hid ((pins_step hx2).symm.trans HQ.out)
          have HTk := Lib.hid (show p.pn.take (j + 1) = p.pn.take j ++ [x.1] from by rw [List.take_add_one, hx2]; rfl)
          have HOx := Lib.hid (HOk.out x (List.mem_of_getElem? hx))
          have HPf := Lib.hid (show pinF (p.pn.take j) x.1 = pinE (p.pn.take j) x.1 from by unfold pinF; rw [if_neg (by rw [List.length_take]; omega)])
          obtain ⟨w3, hw3, hb3, hl3⟩ := box_row (w := ww) 97 #[Value.string ⟨#[]⟩, Value.int .u8 0, Value.int .u8 0, Value.int .u8 0, Value.int .u8 0, Value.int .u8 0, Value.int .u8 0, Value.int .u8 0, Value.int .u8 0, Value.int .u8 0, Value.int .u8 0, Value.int .u8 0, Value.int .u8 0, Value.int .u8 0, Value.int .u8 0, Value.int .u8 0, Value.int .u8 0, Value.int .i64 0, Value.int .i64 0] (pnC x.1)
          have HW3 := Lib.hid hw3
          have HI3 := Lib.hid (HI.out.on hl3)
          have HA := Lib.hid (addPin_any (HE.out _ HI3.out.bel) HI3.out.dr (fun i hi => Nat.le_trans HGe.out (HI3.out.ge i hi)) x HOx.out)
          unfold DoP at HA
          obtain ⟨er, her⟩ : ∃ er, pinE (p.pn.take j) x.1 = er := ⟨_, rfl⟩
          have HA : Hid (Calls Tryz.prog 58 #[.pointer (some ⟨d, 0, none⟩), .agg (pnC x.1)] w3 fun e w' => ∃ S', e = .returned (.int .i64 er) ∧ (er = 0 → DrP w' d S' ⟨false, p.ru, p.pn.take (j + 1)⟩) ∧ (∀ i ∈ S', i ∈ S ∨ w3.heap.size ≤ i) ∧ But S w3 w') := by
            rw [HTk.out, ← her, ← HPf.out]
            exact HA
          rw [her] at HQ2
          have h19 := pnC_size x
          clear hx hx2 hg hw3 hl3 HI HQ her HPf
          go_upto_region 14 with (first | (refine wpList_load_mid rfl 97 _ rfl g (o + j * 19) (by first | rfl | (go_simp; done)) (pnL x.1) _ hra undPn rfl (pn_len' x) ?_) | (refine go_st 97 (Blk.new _ _ _) infPn rfl h19 (pnC_one _) rfl rfl rfl rfl ?_))
          first | rw [HW3.out] | (rw [show (ww.alloc (.cells #[Value.string ⟨#[]⟩, Value.int .u8 0, Value.int .u8 0, Value.int .u8 0, Value.int .u8 0, Value.int .u8 0, Value.int .u8 0, Value.int .u8 0, Value.int .u8 0, Value.int .u8 0, Value.int .u8 0, Value.int .u8 0, Value.int .u8 0, Value.int .u8 0, Value.int .u8 0, Value.int .u8 0, Value.int .u8 0, Value.int .i64 0, Value.int .i64 0] 97)).setRow ww.heap.size (pnC x.1) = w3 from HW3.out])
          clear hra HW3
          go_wp2_with (refine go_ld (x := .tmp 8) 97 hb3 undPn rfl infPn h19 rfl rfl rfl ?_)
          refine HA.out.mono ?_
          rintro e w4 ⟨S', rfl, hd, hS, hk4⟩
          by_cases he : er = 0
          · subst he
            have HI4 := Lib.hid (HI3.out.turn (hd rfl) hS hk4)
            have hq : pinsE (p.pn.take (j + 1)) (p.pn.drop (j + 1)) = RP := (if_neg (by simp)).symm.trans HQ2.out
            have HQ4 := Lib.hid hq
            clear hd hS hk4 HI3 HA HQ2 hb3 hq
            go_wp2_with fail
            go_roundw
            case rel => exact ⟨j + 1, S', _, rfl, by omega, rfl, HI4, HQ4⟩
            case measure => simp [intOf]; omega
          · have hne : (er != 0) = true := by rw [bne_iff_ne]; exact he
            have HB4 := Lib.hid (HI3.out.bel.trans (hk4.below HI3.out.ge HI3.out.bel.size))
            have HZ2 := Lib.hid (show rightP p = er from HZ.out.trans ((if_pos he).symm.trans HQ2.out).symm)
            clear hd hS hk4 HI3 HA HQ2 hb3 he
            go_wp2_with fail
            go_ret
            exact ⟨by rw [HZ2.out]; rfl, HB4.out⟩
        · obtain rfl : j = n2 := by omega
          have hji : ¬ (j : Int) < (j : Int) := by omega
          have hrp0 : RP = 0 := by
            have h1 := HQ.out
            rw [List.drop_of_length_le (by rw [HN3.out]; exact Nat.le_refl _)] at h1
            exact h1.symm
          have HZ2 := Lib.hid (HZ.out.trans hrp0)
          have HB4 := Lib.hid HI.out.bel
          clear hrp0 HQ HI hlt
          go_wp2_with fail
          go_ret
          exact ⟨by rw [HZ2.out]; rfl, HB4.out⟩
end Go.Proofs.YtlpondbcnfaggaaGreatDoor.Po
