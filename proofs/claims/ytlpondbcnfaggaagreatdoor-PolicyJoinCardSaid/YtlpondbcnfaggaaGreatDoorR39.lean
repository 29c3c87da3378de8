/-
  Pins as keys of a map: each has one key, no two the same one; a set of pins, as it lies in memory. Plain lemmas; texts of up to a million bytes, addresses of sixteen bytes.
-/
import Derived.Test.YtlpondbcnfaggaaGreatDoorR14
import Derived.Test.YtlpondbcnfaggaaGreatDoorR24
import Derived.Test.YtlpondbcnfaggaaGreatDoorR36
import Derived.Test.YtlpondbcnfaggaaGreatDoorR21
import Derived.Test.YtlpondbcnfaggaaGreatDoorR38
import Derived.Test.YtlpondbcnfaggaaGreatDoorR30
import Derived.Test.YtlpondbcnfaggaaGreatDoorR31
namespace Go.Proofs.YtlpondbcnfaggaaGreatDoor.Po
open Go.RowKit Go.Proofs.YtlpondbcnfaggaaGreatDoor.Wd Go.Proofs.YtlpondbcnfaggaaGreatDoor.Asc Go.Proofs.YtlpondbcnfaggaaGreatDoor.Tx Go.Proofs.YtlpondbcnfaggaaGreatDoor.St Go.Proofs.YtlpondbcnfaggaaGreatDoor.Tr Go.Proofs.YtlpondbcnfaggaaGreatDoor.Te Go.Maps

theorem rowPn : (97 : TypeId) < Tryz.prog.types.size := of_decide_eq_true (by kernel_rfl)
theorem widePn : (match Tryz.prog.underlying 97 with | some (.array _ _) | some (.struct _) => true | _ => false) = true := by kernel_rfl
set_option maxRecDepth 100000 in
theorem lawPn : Go.WideMaps.KeyLaw Tryz.prog 97 := deep_law_laid Tr.laidOut (m := 4) (by omega) rowPn (by kernel_rfl) widePn
theorem keyedPn : Keyed Tryz.prog 97 := Keyed.of_law lawPn
theorem wf8 (c : UInt8) : (Lit.int .u8 (c.toNat : Int)).wf = true := WalkArith.wf_u8 (by have := c.toNat_lt; omega)
theorem kl8 (D : Nat) (c : UInt8) : Tryz.prog.keyLits (D + 1) 5 [b8 c] = some [.int .u8 (c.toNat : Int)] := by
  simp [Program.keyLits, Tryz.underlying5, b8, wf8]
theorem cells16' : Tryz.prog.cellsOf 48 = 16 := by kernel_rfl
theorem cells17' : Tryz.prog.cellsOf 95 = 17 := by kernel_rfl
theorem cells19' : Tryz.prog.cellsOf 97 = 19 := by kernel_rfl
theorem cells8' : Tryz.prog.cellsOf 5 = 1 := by kernel_rfl
theorem kl16 (D : Nat) (l : List UInt8) (h : l.length = 16) : Tryz.prog.keyLits (D + 2) 48 (cellsOf l) = some (l.map fun x => Lit.int .u8 (x.toNat : Int)) := by
  obtain ⟨x0, x1, x2, x3, x4, x5, x6, x7, x8, x9, x10, x11, x12, x13, x14, x15, rfl⟩ := Ad.list16 h
  unfold Program.keyLits
  rw [Ad.und16]
  simp only [cells16', cells8', cellsOf, List.map_cons, List.map_nil]
  rw [show List.range 16 = [0, 1, 2, 3, 4, 5, 6, 7, 8, 9, 10, 11, 12, 13, 14, 15] from rfl]
  simp [kl8]
def litsC (c : Ad.C) : List Lit := (c.a.map fun x => Lit.int .u8 (x.toNat : Int)) ++ [.int .i64 c.n]
def cL (c : Ad.C) : List Value := cellsOf c.a ++ [.int .i64 c.n]
theorem cL_len (c : Ad.C) (h : c.a.length = 16) : (cL c).length = 17 := by simp [cL, cellsOf_length, h]
theorem kl17 (D : Nat) (c : Ad.C) (h : c.a.length = 16) (h0 : -9223372036854775808 ≤ c.n) (h9 : c.n ≤ 9223372036854775807) : Tryz.prog.keyLits (D + 3) 95 (cL c) = some (litsC c) := by
  have h1 : (cL c).take 16 = cellsOf c.a := by
    unfold cL
    rw [List.take_append_of_le_length (by rw [cellsOf_length, h]; omega), List.take_of_length_le (by rw [cellsOf_length, h]; omega)]
  have h2 : ((cL c).drop 16).take 1 = [.int .i64 c.n] := by
    unfold cL
    rw [List.drop_append_of_le_length (by rw [cellsOf_length, h]; omega), List.drop_of_length_le (by rw [cellsOf_length, h]; omega)]
    rfl
  have k1 := kl16 D c.a h
  have k2 := klI (D + 1) c.n h0 h9
  unfold Program.keyLits
  rw [Tryz.underlying95]
  simp only [cells17', cL_len c h]
  simp [cells16', cellsI, h1, h2, k1, k2, litsC]
def litsPn (x : Pn) : List Lit := .string x.nm :: (litsC x.ci ++ [.int .i64 x.un])
theorem pnL_is (x : Pn) : pnL x = .string (Tx.str x.nm) :: (cL x.ci ++ [.int .i64 x.un]) := by simp [pnL, cL, Ad.C.cells]
theorem kl19 (D : Nat) (x : Pl) (h : OkP x) : Tryz.prog.keyLits (D + 4) 97 (pnL x.1) = some (litsPn x.1) := by
  have hz := cL_len x.1.ci x.2
  have h1 : (pnL x.1).take 1 = [.string (Tx.str x.1.nm)] := by rw [pnL_is]; rfl
  have h2 : ((pnL x.1).tail).take 17 = cL x.1.ci := by
    rw [pnL_is, List.tail_cons, List.take_append_of_le_length (by omega), List.take_of_length_le (by omega)]
  have h3 : ((pnL x.1).drop 18).take 1 = [.int .i64 x.1.un] := by
    rw [pnL_is, List.drop_succ_cons, List.drop_append_of_le_length (by omega), List.drop_of_length_le (by omega)]
    rfl
  have k1 := klS (D + 2) x.1.nm h.n0
  have k2 := kl17 D x.1.ci x.2 h.c0 h.c1
  have k3 := klI (D + 2) x.1.un h.u0 h.u1
  unfold Program.keyLits
  rw [Tryz.underlying97]
  simp only [cells19', pnL_len x]
  simp [cells17', cellsI, cellsS, h1, h2, h3, k1, k2, k3, litsPn]
/-- a pin's key -/
def kPn (x : Pl) : Lit := .string (keyBytes (litsPn x.1))
theorem keyPn (x : Pl) (h : OkP x) : keyOf Tryz.prog 97 (.agg (pnC x.1)) = some (kPn x) := by
  have hk := kl19 (Tryz.prog.types.size - 3) x h
  have hT : 3 < Tryz.prog.types.size := of_decide_eq_true (by kernel_rfl)
  rw [show Tryz.prog.types.size - 3 + 4 = Tryz.prog.types.size + 1 by omega] at hk
  have hkt : Tryz.prog.keyType 97 = true := by kernel_rfl
  have hl := pnL_len x
  have hf : (Value.agg (pnC x.1)).formed Tryz.prog 97 = true := by
    simp [Value.formed, Tryz.underlying97, cells19', pnC, hl]
  unfold keyOf
  rw [Tryz.underlying97]
  show (if (Tryz.prog.keyType 97 && (Value.agg (pnC x.1)).formed Tryz.prog 97) = true then (Tryz.prog.keyLits (Tryz.prog.types.size + 1) 97 (Value.agg (pnC x.1)).cells.toList).map (fun ls => Lit.string (keyBytes ls)) else none) = _
  rw [hkt, hf, show (Value.agg (pnC x.1)).cells.toList = pnL x.1 from rfl, hk]
  rfl
theorem cells_inj8 : ∀ {l l' : List UInt8}, cellsOf l = cellsOf l' → l = l' := by
  intro l
  induction l with
  | nil => intro l' h; cases l' with | nil => rfl | cons => simp [cellsOf] at h
  | cons x l ih =>
    intro l' h
    cases l' with
    | nil => simp [cellsOf] at h
    | cons y l' =>
      simp only [cellsOf, List.map_cons, List.cons.injEq, b8] at h
      have hx : x = y := by
        have h0 : (x.toNat : Int) = (y.toNat : Int) := by injection h.1
        exact UInt8.toNat.inj (by omega)
      rw [hx, ih h.2]
theorem pnL_inj {x y : Pl} (h : pnL x.1 = pnL y.1) : x = y := by
  rw [pnL_is, pnL_is] at h
  injection h with h1 h2
  injection h1 with h1
  obtain ⟨h2, h3⟩ := List.append_inj h2 (by rw [cL_len _ x.2, cL_len _ y.2])
  injection h3 with h3
  injection h3 with _ h3
  obtain ⟨h4, h5⟩ := List.append_inj h2 (by rw [cellsOf_length, cellsOf_length, x.2, y.2])
  injection h5 with h5
  injection h5 with _ h5
  obtain ⟨⟨nx, ⟨ax, bx⟩, ux⟩, px⟩ := x
  obtain ⟨⟨ny, ⟨ay, by'⟩, uy⟩, py⟩ := y
  simp only at h1 h3 h4 h5
  obtain rfl := str_inj h1
  obtain rfl := cells_inj8 h4
  subst h3 h5
  rfl
theorem kPn_inj {x y : Pl} (hx : OkP x) (hy : OkP y) (h : kPn x = kPn y) : x = y := by
  have h3 : Value.agg (pnC x.1) = Value.agg (pnC y.1) := keyedPn.inj (keyPn x hx) ((keyPn y hy).trans (congrArg some h.symm))
  exact pnL_inj (congrArg Array.toList (Value.agg.inj h3))
theorem kPn_key (x : Pl) (h : OkP x) : WideAt.IsKeyLit (kPn x) := keyedPn.key (keyPn x h)
theorem undPm : Tryz.prog.underlying 106 = some (.map 97 74) := by kernel_rfl

/-! a pin without how long it lasts; a set of such -/
def bareP (x : Pl) : Pl := ⟨{ x.1 with un := 0 }, x.2⟩
theorem OkP.bare {x : Pl} (h : OkP x) : OkP (bareP x) := ⟨h.n0, h.c0, h.c1, by show (-9223372036854775808 : Int) ≤ 0; omega, by show (0 : Int) ≤ 9223372036854775807; omega⟩
theorem bare_eq {x y : Pl} : bareP x = bareP y ↔ x.1.nm = y.1.nm ∧ x.1.ci = y.1.ci := by
  obtain ⟨⟨nx, cx, ux⟩, px⟩ := x
  obtain ⟨⟨ny, cy, uy⟩, py⟩ := y
  unfold bareP
  rw [Subtype.mk.injEq, Pn.mk.injEq]
  simp
structure PinsIs (w : World) (b n : Nat) (D : DataW Unit) (L : List Pl) : Prop where
  own : w.ownsMap Tryz.prog 97 (unitElem (H := Unit)) b n D
  has : ∀ q, OkP q → (Maps.has D (kPn q) = true ↔ ∃ x ∈ L, bareP x = q)
  size : Maps.size D = L.length
  le : n ≤ L.length
theorem PinsIs.but {S : List Nat} {w w' : World} {b n : Nat} {D : DataW Unit} {L : List Pl} (h : PinsIs w b n D L) (k : But S w w') (hb : b ∉ S) : PinsIs w' b n D L := ⟨map_but h.own k hb, h.has, h.size, h.le⟩
theorem PinsIs.made (w : World) : PinsIs (w.alloc (.map #[] 0)) w.heap.size 0 (.map []) [] := ⟨World.ownsMap_made w _ _ _, fun q _ => by simp [Maps.has], rfl, Nat.le_refl _⟩
theorem pins_has {w : World} {b n : Nat} {D : DataW Unit} {L : List Pl} (h : PinsIs w b n D L) (x : Pl) (hx : OkP x) : Maps.has D (kPn (bareP x)) = L.any (fun y => decide (y.1.nm = x.1.nm) && decide (y.1.ci = x.1.ci)) := by
  rw [Bool.eq_iff_iff, h.has _ hx.bare, List.any_eq_true]
  constructor
  · rintro ⟨y, h1, h2⟩
    have := bare_eq.1 h2
    exact ⟨y, h1, by simp [this.1, this.2]⟩
  · rintro ⟨y, h1, h2⟩
    rw [Bool.and_eq_true, decide_eq_true_eq, decide_eq_true_eq] at h2
    exact ⟨y, h1, bare_eq.2 h2⟩
set_option maxRecDepth 100000 in
/-- is such a pin there -/
theorem pins_look {w : World} {bl n : Nat} {D : DataW Unit} {L : List Pl} {b : Bool} {q : Pl} (h : PinsIs w bl n D L) (hq : OkP q) (hb : Maps.has D (kPn q) = b) :
    (Instr.lookup 106 (.map (some bl)) (.agg (pnC q.1)) true).run Tryz.prog w = .ok (.tuple #[.agg #[], .bool b]) w := by
  obtain ⟨v, ps, h1, h2⟩ := h.own.look_ok keyedPn undPm (zeroT w) unitElem_mk (keyPn q hq)
  obtain ⟨rfl, _⟩ := unitElem_inv h2
  rw [hb] at h1
  exact h1
set_option maxRecDepth 100000 in
/-- such a pin is put there -/
theorem pins_store {w : World} {bl n : Nat} {D : DataW Unit} {L : List Pl} {x : Pl} (h : PinsIs w bl n D L) (hx : OkP x) (hn : L.length < 1000) (hno : Maps.has D (kPn (bareP x)) = false) :
    ∃ w9, (Instr.mapUpdate 106 (.map (some bl)) (.agg (pnC (bareP x).1)) (.agg #[])).run Tryz.prog w = .ok () w9 ∧ PinsIs w9 bl (n + 1) (D.put (kPn (bareP x)) (.agg [])) (L ++ [x]) ∧ But [bl] w w9 := by
  obtain ⟨w9, h1, h2, h3⟩ := h.own.store keyedPn undPm (by unfold maxLen; have := h.le; omega) (keyPn _ hx.bare) unitElem_mk
  refine ⟨w9, h1, ⟨h2, fun q hq => ?_, ?_, ?_⟩, but_grown h3.grown⟩
  · by_cases e : q = bareP x
    · subst e
      rw [has_put_same h.own.isMap (kPn_key _ hx.bare)]
      exact ⟨fun _ => ⟨x, by simp, rfl⟩, fun _ => rfl⟩
    · rw [has_put_other (fun hk => e (kPn_inj hq hx.bare hk)), h.has q hq]
      constructor
      · rintro ⟨y, h1, h2⟩
        exact ⟨y, by simp [h1], h2⟩
      · rintro ⟨y, h1, h2⟩
        rcases List.mem_append.1 h1 with h1 | h1
        · exact ⟨y, h1, h2⟩
        · rw [List.mem_singleton.1 h1] at h2
          exact absurd h2.symm e
  · rw [Maps.size_put (h.own.tidy keyedPn), hno, h.size]
    simp
  · have := h.le
    rw [List.length_append, List.length_singleton]; omega
end Go.Proofs.YtlpondbcnfaggaaGreatDoor.Po

/-
  A policy that is right so far, as package policy keeps it in memory (its draft): what stands of it behind each turn. Plain memory lemmas.
-/
namespace Go.Proofs.YtlpondbcnfaggaaGreatDoor.Po
open Go.RowKit Go.Proofs.YtlpondbcnfaggaaGreatDoor.Wd Go.Proofs.YtlpondbcnfaggaaGreatDoor.Asc Go.Proofs.YtlpondbcnfaggaaGreatDoor.Tx Go.Proofs.YtlpondbcnfaggaaGreatDoor.St Go.Proofs.YtlpondbcnfaggaaGreatDoor.Tr Go.Proofs.YtlpondbcnfaggaaGreatDoor.Te Go.Maps

/-! what a line brings to a right policy -/
theorem app_ru {p : Pol} (h : rightP p = 0) (r : Ru) : rightP (p.app (.ru r)) = addE p.ru r := by
  obtain ⟨h1, h2, h3⟩ := rightP_parts.1 h
  have h4 : rulesE [] (p.ru ++ [r]) = addE p.ru r := by
    rw [rules_app, if_neg (by simp [h1]), List.nil_append]
    show (if addE p.ru r ≠ 0 then addE p.ru r else 0) = _
    split
    · rfl
    · rename_i h5
      exact (Decidable.not_not.1 h5).symm
  show (if rulesE [] (p.ru ++ [r]) ≠ 0 then rulesE [] (p.ru ++ [r]) else if 200 < p.pn.length then 2 else pinsE [] p.pn) = _
  rw [h4, h3, if_neg (show ¬ 200 < p.pn.length by omega)]
  split
  · rfl
  · rename_i h5
    exact (Decidable.not_not.1 h5).symm
theorem app_pn {p : Pol} (h : rightP p = 0) (x : Pn) : rightP (p.app (.pn x)) = if 200 ≤ p.pn.length then 2 else pinE p.pn x := by
  obtain ⟨h1, h2, h3⟩ := rightP_parts.1 h
  have h4 : pinsE [] (p.pn ++ [x]) = pinE p.pn x := by
    rw [pins_app, if_neg (by simp [h3]), List.nil_append]
    show (if pinE p.pn x ≠ 0 then pinE p.pn x else 0) = _
    split
    · rfl
    · rename_i h5
      exact (Decidable.not_not.1 h5).symm
  show (if rulesE [] p.ru ≠ 0 then rulesE [] p.ru else if 200 < (p.pn ++ [x]).length then 2 else pinsE [] (p.pn ++ [x])) = _
  rw [h4, if_neg (by simp [h1]), List.length_append, List.length_singleton]
  by_cases h5 : 200 ≤ p.pn.length
  · rw [if_pos h5, if_pos (by omega)]
  · rw [if_neg h5, if_neg (by omega)]

/-- its cells -/
def drC (al : Bool) (v1 v2 : Value) (g b : Nat) : Array Value := #[.bool al, v1, v2, .pointer (some ⟨g, 0, none⟩), .map (some b)]
/-- a draft in memory: its policy's rows, its trie with the rules L, its set with the pins qs -/
structure DrI (w : World) (d : Nat) (S : List Nat) (al : Bool) (ru L : List Ru) (ps qs : List Pl) (v1 v2 : Value) (g : Nat) (St : List Nat) (b n : Nat) (D : DataW Unit) : Prop where
  blk : Blk w d 108 (drC al v1 v2 g b)
  rul : OwnE w elU 0 v1 ru
  pin : OwnE w elPn 0 v2 ps
  tri : TriP w g St L
  set : PinsIs w b n D qs
  inD : d ∈ S
  inB : b ∈ S
  in1 : ∀ i, v1.ownBlock = some i → i ∈ S
  in2 : ∀ i, v2.ownBlock = some i → i ∈ S
  inT : ∀ i ∈ g :: St, i ∈ S
  ap : ∀ i ∈ g :: St, i ≠ d ∧ i ≠ b ∧ v1.ownBlock ≠ some i ∧ v2.ownBlock ≠ some i
  lt : ∀ i ∈ S, i < w.heap.size
/-- a draft of the policy p -/
def DrP (w : World) (d : Nat) (S : List Nat) (p : Pol) : Prop := rightP p = 0 ∧ ∃ ps v1 v2 g St b n D, plain ps = p.pn ∧ DrI w d S p.al p.ru p.ru ps ps v1 v2 g St b n D
section
variable {w w' : World} {d : Nat} {S : List Nat} {al : Bool} {ru L : List Ru} {ps qs : List Pl} {v1 v2 : Value} {g : Nat} {St : List Nat} {b n : Nat} {D : DataW Unit}
theorem newB_in (hz : w.heap.size ≤ w'.heap.size) (hS : ∀ i ∈ S, i < w.heap.size) : ∀ i ∈ S ++ newB w w', i < w'.heap.size := fun i hi => by
  rcases List.mem_append.1 hi with hi | hi
  · have := hS i hi; omega
  · exact ((newB_mem hz).1 hi).2
theorem newB_new (hz : w.heap.size ≤ w'.heap.size) : ∀ i ∈ S ++ newB w w', i ∈ S ∨ w.heap.size ≤ i := fun i hi => by
  rcases List.mem_append.1 hi with hi | hi
  · exact .inl hi
  · exact .inr ((newB_mem hz).1 hi).1
/-- what turns elsewhere does not matter -/
theorem DrI.but {T : List Nat} (h : DrI w d S al ru L ps qs v1 v2 g St b n D) (k : But T w w') (hT : ∀ i ∈ S, i ∉ T) : DrI w' d S al ru L ps qs v1 v2 g St b n D :=
  { h with
    blk := h.blk.but k (hT _ h.inD)
    rul := h.rul.but k (fun i hi => hT i (h.in1 i hi))
    pin := h.pin.but k (fun i hi => hT i (h.in2 i hi))
    tri := h.tri.but k (fun i hi => hT i (h.inT i hi))
    set := h.set.but k (hT _ h.inB)
    lt := fun i hi => Nat.lt_of_lt_of_le (h.lt i hi) k.size }
theorem DrI.on (h : DrI w d S al ru L ps qs v1 v2 g St b n D) (hb : Below w.heap.size w w') : DrI w' d S al ru L ps qs v1 v2 g St b n D := h.but (But.of_below hb []) (fun _ _ hm => by cases hm)
theorem DrI.wide {S' : List Nat} (h : DrI w d S al ru L ps qs v1 v2 g St b n D) (h1 : ∀ i ∈ S, i ∈ S') (h2 : ∀ i ∈ S', i < w.heap.size) : DrI w d S' al ru L ps qs v1 v2 g St b n D :=
  { h with
    inD := h1 _ h.inD
    inB := h1 _ h.inB
    in1 := fun i hi => h1 i (h.in1 i hi)
    in2 := fun i hi => h1 i (h.in2 i hi)
    inT := fun i hi => h1 i (h.inT i hi)
    lt := h2 }
theorem DrP.on {p : Pol} (h : DrP w d S p) (hb : Below w.heap.size w w') : DrP w' d S p := by
  obtain ⟨h1, ps, v1, v2, g, St, b, n, D, h2, h3⟩ := h
  exact ⟨h1, ps, v1, v2, g, St, b, n, D, h2, h3.on hb⟩
theorem DrP.but {T : List Nat} {p : Pol} (h : DrP w d S p) (k : But T w w') (hT : ∀ i ∈ S, i ∉ T) : DrP w' d S p := by
  obtain ⟨h1, ps, v1, v2, g, St, b, n, D, h2, h3⟩ := h
  exact ⟨h1, ps, v1, v2, g, St, b, n, D, h2, h3.but k hT⟩
theorem DrP.lts {p : Pol} (h : DrP w d S p) : ∀ i ∈ S, i < w.heap.size := by
  obtain ⟨_, ps, v1, v2, g, St, b, n, D, _, h3⟩ := h
  exact h3.lt
/-- the trie's rules turned -/
theorem DrI.trie {St' : List Nat} {L' : List Ru} (h : DrI w d S al ru L ps qs v1 v2 g St b n D) (hT : TriP w' g St' L') (hS : ∀ i ∈ St', i ∈ St ∨ w.heap.size ≤ i) (k : But (g :: St) w w') :
    DrI w' d (S ++ newB w w') al ru L' ps qs v1 v2 g St' b n D := by
  have hlt := hT.lts
  have hnew : ∀ i ∈ g :: St', i ∈ g :: St ∨ w.heap.size ≤ i := fun i hi => by
    rcases List.mem_cons.1 hi with rfl | hi
    · exact .inl (by simp)
    · rcases hS i hi with h1 | h1
      · exact .inl (List.mem_cons_of_mem _ h1)
      · exact .inr h1
  refine ⟨h.blk.but k (fun hm => (h.ap d hm).1 rfl), h.rul.but k (fun i hi hm => (h.ap i hm).2.2.1 hi), h.pin.but k (fun i hi hm => (h.ap i hm).2.2.2 hi), hT, h.set.but k (fun hm => (h.ap b hm).2.1 rfl), List.mem_append.2 (.inl h.inD), List.mem_append.2 (.inl h.inB), fun i hi => List.mem_append.2 (.inl (h.in1 i hi)), fun i hi => List.mem_append.2 (.inl (h.in2 i hi)), fun i hi => ?_, fun i hi => ?_, newB_in k.size h.lt⟩
  · rcases hnew i hi with h1 | h1
    · exact List.mem_append.2 (.inl (h.inT i h1))
    · exact List.mem_append.2 (.inr ((newB_mem k.size).2 ⟨h1, hlt i hi⟩))
  · rcases hnew i hi with h1 | h1
    · exact h.ap i h1
    · have a1 := h.lt d h.inD
      have a2 := h.lt b h.inB
      refine ⟨by omega, by omega, fun e => ?_, fun e => ?_⟩
      · have := h.lt i (h.in1 i e); omega
      · have := h.lt i (h.in2 i e); omega
set_option maxRecDepth 100000 in
theorem DrI.n1 (h : DrI w d S al ru L ps qs v1 v2 g St b n D) : d ∉ v1.ownBlock.toList ∧ (∀ i, v2.ownBlock = some i → i ∉ v1.ownBlock.toList) ∧ b ∉ v1.ownBlock.toList ∧ (∀ i ∈ g :: St, i ∉ v1.ownBlock.toList) := by
  refine ⟨fun hm => ?_, fun i hi hm => ?_, fun hm => ?_, fun i hi hm => (h.ap i hi).2.2.1 (Option.mem_toList.1 hm)⟩
  · obtain ⟨cur, hc⟩ := h.rul.typ d (Option.mem_toList.1 hm)
    exact hc.ne_ h.blk (by decide) rfl
  · obtain ⟨cur, hc⟩ := h.rul.typ i (Option.mem_toList.1 hm)
    obtain ⟨cur', hc'⟩ := h.pin.typ i hi
    exact hc.ne_ hc' (by decide) rfl
  · obtain ⟨cur, hc⟩ := h.rul.typ b (Option.mem_toList.1 hm)
    exact map_ne h.set.own hc rfl
set_option maxRecDepth 100000 in
theorem DrI.n2 (h : DrI w d S al ru L ps qs v1 v2 g St b n D) : d ∉ v2.ownBlock.toList ∧ (∀ i, v1.ownBlock = some i → i ∉ v2.ownBlock.toList) ∧ b ∉ v2.ownBlock.toList ∧ (∀ i ∈ g :: St, i ∉ v2.ownBlock.toList) := by
  refine ⟨fun hm => ?_, fun i hi hm => ?_, fun hm => ?_, fun i hi hm => (h.ap i hi).2.2.2 (Option.mem_toList.1 hm)⟩
  · obtain ⟨cur, hc⟩ := h.pin.typ d (Option.mem_toList.1 hm)
    exact hc.ne_ h.blk (by decide) rfl
  · obtain ⟨cur, hc⟩ := h.pin.typ i (Option.mem_toList.1 hm)
    obtain ⟨cur', hc'⟩ := h.rul.typ i hi
    exact hc.ne_ hc' (by decide) rfl
  · obtain ⟨cur, hc⟩ := h.pin.typ b (Option.mem_toList.1 hm)
    exact map_ne h.set.own hc rfl
set_option maxRecDepth 100000 in
theorem DrI.nd (h : DrI w d S al ru L ps qs v1 v2 g St b n D) : (∀ i, v1.ownBlock = some i → i ∉ [d]) ∧ (∀ i, v2.ownBlock = some i → i ∉ [d]) ∧ b ∉ [d] ∧ (∀ i ∈ g :: St, i ∉ [d]) := by
  refine ⟨fun i hi hm => ?_, fun i hi hm => ?_, fun hm => ?_, fun i hi hm => (h.ap i hi).1 (List.mem_singleton.1 hm)⟩
  · obtain ⟨cur, hc⟩ := h.rul.typ i hi
    exact hc.ne_ h.blk (by decide) (List.mem_singleton.1 hm)
  · obtain ⟨cur, hc⟩ := h.pin.typ i hi
    exact hc.ne_ h.blk (by decide) (List.mem_singleton.1 hm)
  · exact map_ne h.set.own h.blk (List.mem_singleton.1 hm)
set_option maxRecDepth 100000 in
/-- the rules' row turned, and was put back -/
theorem DrI.put1 {ru' : List Ru} {v : Value} (h : DrI w d S al ru L ps qs v1 v2 g St b n D) (ho : OwnE w' elU 0 v ru') (k : But v1.ownBlock.toList w w') (hv : v.ownBlock = v1.ownBlock ∨ v.ownBlock = some w.heap.size) :
    DrI (w'.setCell ⟨d, 1, none⟩ v) d (S ++ newB w w') al ru' L ps qs v v2 g St b n D ∧ But S w (w'.setCell ⟨d, 1, none⟩ v) := by
  obtain ⟨a1, a2, a3, a4⟩ := h.n1
  obtain ⟨_, c2, c3, c4⟩ := h.nd
  have k2 : But [d] w' (w'.setCell ⟨d, 1, none⟩ v) := (But.refl [d] w').set_ (p := ⟨d, 1, none⟩) (.inl (by simp)) v
  have zz : w'.heap.size ≤ (w'.setCell ⟨d, 1, none⟩ v).heap.size := k2.size
  have hb1 : Blk w' d 108 (drC al v1 v2 g b) := h.blk.but k a1
  have hnv : ∀ i, v.ownBlock = some i → v1.ownBlock = some i ∨ (i = w.heap.size ∧ i < w'.heap.size) := fun i hi => by
    rcases hv with e | e
    · exact .inl (by rw [← e]; exact hi)
    · have h1 := ho.lt i hi
      rw [e] at hi
      injection hi with hi
      exact .inr ⟨hi.symm, h1⟩
  refine ⟨⟨hb1.set_ 1 v, ho.but k2 (fun i hi hm => ?_), (h.pin.but k a2).but k2 c2, (h.tri.but k a4).but k2 c4, (h.set.but k a3).but k2 c3, List.mem_append.2 (.inl h.inD), List.mem_append.2 (.inl h.inB), fun i hi => ?_, fun i hi => List.mem_append.2 (.inl (h.in2 i hi)), fun i hi => List.mem_append.2 (.inl (h.inT i hi)), fun i hi => ?_, fun i hi => Nat.lt_of_lt_of_le (newB_in k.size h.lt i hi) zz⟩, ?_⟩
  · obtain ⟨cur, hc⟩ := ho.typ i hi
    exact hc.ne_ hb1 (by decide) (List.mem_singleton.1 hm)
  · rcases hnv i hi with e | ⟨e, e2⟩
    · exact List.mem_append.2 (.inl (h.in1 i e))
    · exact List.mem_append.2 (.inr ((newB_mem k.size).2 ⟨by omega, e2⟩))
  · obtain ⟨x1, x2, x3, x4⟩ := h.ap i hi
    refine ⟨x1, x2, fun e => ?_, x4⟩
    rcases hnv i e with e1 | ⟨e1, _⟩
    · exact x3 e1
    · have := h.lt i (h.inT i hi); omega
  · exact but_more (but_more (But.refl S w) k (fun i hi => .inl (h.in1 i (Option.mem_toList.1 hi)))) k2 (fun i hi => .inl (by rw [List.mem_singleton.1 hi]; exact h.inD))
set_option maxRecDepth 100000 in
/-- the pins' row turned, and was put back -/
theorem DrI.put2 {ps' : List Pl} {v : Value} (h : DrI w d S al ru L ps qs v1 v2 g St b n D) (ho : OwnE w' elPn 0 v ps') (k : But v2.ownBlock.toList w w') (hv : v.ownBlock = v2.ownBlock ∨ v.ownBlock = some w.heap.size) :
    DrI (w'.setCell ⟨d, 2, none⟩ v) d (S ++ newB w w') al ru L ps' qs v1 v g St b n D ∧ But S w (w'.setCell ⟨d, 2, none⟩ v) := by
  obtain ⟨a1, a2, a3, a4⟩ := h.n2
  obtain ⟨c1, _, c3, c4⟩ := h.nd
  have k2 : But [d] w' (w'.setCell ⟨d, 2, none⟩ v) := (But.refl [d] w').set_ (p := ⟨d, 2, none⟩) (.inl (by simp)) v
  have zz : w'.heap.size ≤ (w'.setCell ⟨d, 2, none⟩ v).heap.size := k2.size
  have hb1 : Blk w' d 108 (drC al v1 v2 g b) := h.blk.but k a1
  have hnv : ∀ i, v.ownBlock = some i → v2.ownBlock = some i ∨ (i = w.heap.size ∧ i < w'.heap.size) := fun i hi => by
    rcases hv with e | e
    · exact .inl (by rw [← e]; exact hi)
    · have h1 := ho.lt i hi
      rw [e] at hi
      injection hi with hi
      exact .inr ⟨hi.symm, h1⟩
  refine ⟨⟨hb1.set_ 2 v, (h.rul.but k a2).but k2 c1, ho.but k2 (fun i hi hm => ?_), (h.tri.but k a4).but k2 c4, (h.set.but k a3).but k2 c3, List.mem_append.2 (.inl h.inD), List.mem_append.2 (.inl h.inB), fun i hi => List.mem_append.2 (.inl (h.in1 i hi)), fun i hi => ?_, fun i hi => List.mem_append.2 (.inl (h.inT i hi)), fun i hi => ?_, fun i hi => Nat.lt_of_lt_of_le (newB_in k.size h.lt i hi) zz⟩, ?_⟩
  · obtain ⟨cur, hc⟩ := ho.typ i hi
    exact hc.ne_ hb1 (by decide) (List.mem_singleton.1 hm)
  · rcases hnv i hi with e | ⟨e, e2⟩
    · exact List.mem_append.2 (.inl (h.in2 i e))
    · exact List.mem_append.2 (.inr ((newB_mem k.size).2 ⟨by omega, e2⟩))
  · obtain ⟨x1, x2, x3, x4⟩ := h.ap i hi
    refine ⟨x1, x2, x3, fun e => ?_⟩
    rcases hnv i e with e1 | ⟨e1, _⟩
    · exact x4 e1
    · have := h.lt i (h.inT i hi); omega
  · exact but_more (but_more (But.refl S w) k (fun i hi => .inl (h.in2 i (Option.mem_toList.1 hi)))) k2 (fun i hi => .inl (by rw [List.mem_singleton.1 hi]; exact h.inD))
set_option maxRecDepth 100000 in
/-- the set turned -/
theorem DrI.setm {n' : Nat} {D' : DataW Unit} {qs' : List Pl} (h : DrI w d S al ru L ps qs v1 v2 g St b n D) (hs : PinsIs w' b n' D' qs') (k : But [b] w w') : DrI w' d S al ru L ps qs' v1 v2 g St b n' D' :=
  have ne : ∀ i, (∃ t cs, Blk w i t cs) → i ∉ [b] := fun i hi hm => by
    obtain ⟨t, cs, hc⟩ := hi
    exact map_ne h.set.own hc (List.mem_singleton.1 hm).symm
  { h with
    blk := h.blk.but k (ne d ⟨_, _, h.blk⟩)
    rul := h.rul.but k (fun i hi => by obtain ⟨cur, hc⟩ := h.rul.typ i hi; exact ne i ⟨_, _, hc⟩)
    pin := h.pin.but k (fun i hi => by obtain ⟨cur, hc⟩ := h.pin.typ i hi; exact ne i ⟨_, _, hc⟩)
    tri := h.tri.but k (fun i hi hm => (h.ap i hi).2.1 (List.mem_singleton.1 hm))
    set := hs
    lt := fun i hi => Nat.lt_of_lt_of_le (h.lt i hi) k.size }
/-- what counts elsewhere turned -/
theorem DrI.seta (h : DrI w d S al ru L ps qs v1 v2 g St b n D) (al' : Bool) : DrI (w.setCell ⟨d, 0, none⟩ (.bool al')) d S al' ru L ps qs v1 v2 g St b n D ∧ But S w (w.setCell ⟨d, 0, none⟩ (.bool al')) := by
  obtain ⟨c1, c2, c3, c4⟩ := h.nd
  have k2 : But [d] w (w.setCell ⟨d, 0, none⟩ (.bool al')) := (But.refl [d] w).set_ (p := ⟨d, 0, none⟩) (.inl (by simp)) _
  refine ⟨{ h with
    blk := h.blk.set_ 0 (.bool al')
    rul := h.rul.but k2 c1
    pin := h.pin.but k2 c2
    tri := h.tri.but k2 c4
    set := h.set.but k2 c3
    lt := fun i hi => Nat.lt_of_lt_of_le (h.lt i hi) k2.size }, k2.more (fun i hi => by rw [List.mem_singleton.1 hi]; exact h.inD)⟩
end
end Go.Proofs.YtlpondbcnfaggaaGreatDoor.Po

/-
  Contracts of package policy's cidr, bare, isName and newDraft over this seat's translation. Condition: texts of up to a million bytes.
-/
namespace Go.Proofs.YtlpondbcnfaggaaGreatDoor.Po
open Go.RowKit Go.Proofs.YtlpondbcnfaggaaGreatDoor.Wd Go.Proofs.YtlpondbcnfaggaaGreatDoor.Asc Go.Proofs.YtlpondbcnfaggaaGreatDoor.Tx Go.Proofs.YtlpondbcnfaggaaGreatDoor.St Go.Proofs.YtlpondbcnfaggaaGreatDoor.Tr Go.Proofs.YtlpondbcnfaggaaGreatDoor.Te Go.Maps

/-- the Cidr of the next word -/
def cidW (ws : List (List UInt8)) : Ad.C := (Ad.cparseS (headW ws)).getD Ad.C0
theorem cidW_len (ws : List (List UInt8)) : (cidW ws).a.length = 16 := by
  unfold cidW
  cases h : Ad.cparseS (headW ws) with
  | none => rfl
  | some c => exact Ad.cparseS_len h
set_option linter.unusedSimpArgs false in
set_option maxRecDepth 100000 in
set_option maxHeartbeats 4000000 in
theorem cidr_anyW {B : Nat} {w : World} {x : Nat} {ws : List (List UInt8)} {b : Bool} (hE : Ad.Env B w) (hBx : B ≤ x) (h : WdI w x ws b) :
    Calls Tryz.prog 142 #[.pointer (some ⟨x, 0, none⟩)] w (WdP w x (.agg (cidW ws).cells) ws.tail (b || !(Ad.cparseS (headW ws)).isSome)) := by
  obtain ⟨w0, hw0⟩ : ∃ w0, w.alloc (.cells #[Value.int .u8 0, Value.int .u8 0, Value.int .u8 0, Value.int .u8 0, Value.int .u8 0, Value.int .u8 0, Value.int .u8 0, Value.int .u8 0, Value.int .u8 0, Value.int .u8 0, Value.int .u8 0, Value.int .u8 0, Value.int .u8 0, Value.int .u8 0, Value.int .u8 0, Value.int .u8 0, Value.int .i64 0] 95) = w0 := ⟨_, rfl⟩
  have hr : Blk w0 w.heap.size 95 Ad.C0.cells := by rw [← hw0]; exact Blk.new _ _ _
  have hb0 : Below w.heap.size w w0 := by rw [← hw0]; exact (Below.refl _ _).alloc (Nat.le_refl _) _
  have HW0 := Lib.hid hw0
  have HX := Lib.hid h.lt
  have HL := Lib.hid h.len
  have HN := Lib.hid (next_any (h.on hb0))
  have HB0 := Lib.hid hb0
  have HR := Lib.hid hr
  have HP := Lib.hid (fun w' (hE' : Ad.Env B w') => Ad.cparse_any (headW ws) w' hE' (by have := HL.out; omega))
  obtain ⟨ok, hok⟩ : ∃ ok, (Ad.cparseS (headW ws)).isSome = ok := ⟨_, rfl⟩
  obtain ⟨c, hc⟩ : ∃ c, cidW ws = c := ⟨_, rfl⟩
  have hc16 : c.cells.size = 17 := by rw [← hc]; exact Ad.C_size _ (cidW_len ws)
  have HP : Hid (∀ w', Ad.Env B w' → Calls Tryz.prog 172 #[.string (str (headW ws))] w' fun e w'' => e = .returned (.tuple #[.agg c.cells, .bool ok]) ∧ Below w'.heap.size w' w'') := Lib.hid (fun w' hE' => by
    have := HP.out w' hE'
    rw [← hc, ← hok]
    exact this)
  rw [hc, hok]
  have HE := Lib.hid hE
  obtain ⟨y, hy⟩ : ∃ y, w.heap.size = y := ⟨_, rfl⟩
  have HY := Lib.hid hy
  rw [hy] at HR
  clear hw0 hr hb0 h hok hc hE
  go_enter Tryz.func142, Tryz.ntmps142
  go_wp2_with fail
  rw [HW0.out]
  refine HN.out.mono ?_
  rintro e w1 ⟨rfl, h1, hb1⟩
  clear hy
  have H1 := Lib.hid h1
  have HB1 := Lib.hid (show But [x] w w1 from but_more (But.of_below HB0.out [x]) hb1 (fun i hi => .inl hi))
  have HR1 := Lib.hid (HR.out.but hb1 (fun hm => by have h1 := HX.out; have h2 := HY.out; simp only [List.mem_singleton] at hm; omega))
  have HE1 := Lib.hid (HE.out.below (HB1.out.below (fun i hi => by rw [List.mem_singleton.1 hi]; exact hBx) HE.out.le))
  clear h1 hb1 HN HR HB0 HW0 hBx
  go_wp2_with fail
  refine (HP.out _ HE1.out).mono ?_
  rintro e w2 ⟨rfl, hb2⟩
  have HR2 := Lib.hid (HR1.out.below hb2 HR1.out.lt)
  have H2 := Lib.hid (H1.out.on hb2)
  have HB2 := Lib.hid (HB1.out.trans (But.of_below hb2 [x]))
  clear hb2 H1 HB1 HR1 HP
  go_upto_region 2 with (refine go_st 95 (Blk.new _ _ _) Ad.info17 rfl hc16 (Ad.C_one c) rfl rfl rfl rfl ?_)
  obtain ⟨w3, hw3⟩ : ∃ w3, (w2.alloc (.cells #[Value.int .u8 0, Value.int .u8 0, Value.int .u8 0, Value.int .u8 0, Value.int .u8 0, Value.int .u8 0, Value.int .u8 0, Value.int .u8 0, Value.int .u8 0, Value.int .u8 0, Value.int .u8 0, Value.int .u8 0, Value.int .u8 0, Value.int .u8 0, Value.int .u8 0, Value.int .u8 0, Value.int .i64 0] 95)).setRow w2.heap.size c.cells = w3 := ⟨_, rfl⟩
  have hz : Blk w3 w2.heap.size 95 c.cells := by rw [← hw3]; exact setRow_blk (Blk.new _ _ _)
  have hb3 : Below w2.heap.size w2 w3 := by rw [← hw3]; exact setRow_below ((Below.refl _ _).alloc (Nat.le_refl _) _) (Blk.new _ _ _) (Nat.le_refl _) _
  rw [hw3]
  have HX2 := Lib.hid (show x < w2.heap.size from H2.out.lt)
  have HRn := Lib.hid (show y < w2.heap.size from HR2.out.lt)
  have HR3 := Lib.hid (HR2.out.below hb3 HR2.out.lt)
  have HE3 := Lib.hid (expect_any (H2.out.on hb3) ok)
  have HB3 := Lib.hid (HB2.out.trans (But.of_below hb3 [x]))
  obtain ⟨z, hzz⟩ : ∃ z, w2.heap.size = z := ⟨_, rfl⟩
  rw [hzz] at hz HX2 HRn ⊢
  have HZ := Lib.hid hz
  clear hw3 hb3 hz HR2 H2 HB2 hzz
  go_wp2_with fail
  refine HE3.out.mono ?_
  rintro e w4 ⟨rfl, h4, hb4⟩
  have hz4 := HZ.out.but hb4 (fun hm => by have h1 := HX2.out; simp only [List.mem_singleton] at hm; omega)
  have hr4 := HR3.out.but hb4 (fun hm => by have h1 := HX.out; have h2 := HY.out; simp only [List.mem_singleton] at hm; omega)
  have H4 := Lib.hid h4
  have HB4 := Lib.hid (HB3.out.trans hb4)
  clear h4 hb4 HE3 HZ HR3 HB3
  go_wp2_with (first | (refine go_ld (x := .tmp 3) 95 hz4 Ad.und17 rfl Ad.info17 hc16 rfl rfl rfl ?_) | (refine go_st 95 hr4 Ad.info17 rfl hc16 (Ad.C_one c) rfl rfl rfl rfl ?_))
  refine ret_one Tryz.results142 (setRow_blk hr4) Ad.und17 rfl Ad.info17 hc16 rfl ?_ rfl
  have k : But [] w4 (w4.setRow y c.cells) → True := fun _ => trivial
  refine ⟨rfl, H4.out.but (S := [y]) ((But.refl [y] w4).row (.inl (by simp)) _) (fun hm => by have h1 := HX.out; have h2 := HY.out; simp only [List.mem_singleton] at hm; omega), HB4.out.row (.inr (by have h2 := HY.out; omega)) _⟩
/-- its zero -/
theorem pn_zero : ∀ w : World, (zeroValue 97).run Tryz.prog w = .ok pnZ w := fun w => by kernel_rfl
set_option linter.unusedSimpArgs false in
set_option maxRecDepth 100000 in
set_option maxHeartbeats 4000000 in
theorem isName_any {B : Nat} {w : World} (hE : Ad.Env B w) (s : List UInt8) (hs : s.length ≤ 1000000) :
    Calls Tryz.prog 98 #[.string (str s)] w fun e w' => e = .returned (.bool (nameB s)) ∧ Below w.heap.size w w' := by
  obtain ⟨n, e0, hq⟩ : ∃ n e0, Nm.normalS s = (n, e0) := ⟨_, _, rfl⟩
  have HN := Lib.hid (Nm.norm_any (str s) w hE (by rw [str_size]; omega))
  rw [bs_str, hq] at HN
  obtain ⟨d, hd⟩ : ∃ d, nameB s = d := ⟨_, rfl⟩
  have HD := Lib.hid (show d = (decide (e0 = 0) && (n == s)) from by
    rw [← hd]
    unfold nameB
    rw [hq, Bool.eq_iff_iff]
    simp [and_comm])
  rw [hd]
  clear hq hd hE
  go_enter Tryz.func98, Tryz.ntmps98
  go_wp2_with fail
  refine HN.out.mono ?_
  rintro e w1 ⟨rfl, hb1⟩
  have HB := Lib.hid hb1
  clear hb1 HN
  by_cases h0 : e0 = 0
  · subst h0
    go_wp2_with fail
    go_ret
    exact ⟨by rw [HD.out]; rfl, HB.out⟩
  · have h1 : (e0 == 0) = false := by rw [beq_eq_false_iff_ne]; exact h0
    have HF := Lib.hid h0
    clear h0
    go_wp2_with fail
    go_ret
    exact ⟨by rw [HD.out, decide_eq_false HF.out]; rfl, HB.out⟩
end Go.Proofs.YtlpondbcnfaggaaGreatDoor.Po

/-
  Contracts of package policy's bare and newDraft over this seat's translation. No condition but addresses of sixteen bytes.
-/
namespace Go.Proofs.YtlpondbcnfaggaaGreatDoor.Po
open Go.RowKit Go.Proofs.YtlpondbcnfaggaaGreatDoor.Wd Go.Proofs.YtlpondbcnfaggaaGreatDoor.Asc Go.Proofs.YtlpondbcnfaggaaGreatDoor.Tx Go.Proofs.YtlpondbcnfaggaaGreatDoor.St Go.Proofs.YtlpondbcnfaggaaGreatDoor.Tr Go.Proofs.YtlpondbcnfaggaaGreatDoor.Te Go.Maps

theorem pnC_size (x : Pl) : (pnC x.1).size = 19 := by
  have h := pnL_len x
  simp [pnC, h]
theorem pn_18 (x : Pl) : (pnC x.1)[18]? = some (.int .i64 x.1.un) := by
  have hz := Ad.C_size x.1.ci x.2
  simp [pnC, pnL, hz]
theorem bare_cellsP (x : Pl) : (pnC x.1).setIfInBounds 18 (.int .i64 0) = pnC (bareP x).1 := by
  have hz := Ad.C_size x.1.ci x.2
  have hl : x.1.ci.cells.toList.length = 17 := by rw [Array.length_toList, hz]
  apply Array.ext'
  rw [Array.toList_setIfInBounds]
  show (Value.string (Tx.str x.1.nm) :: (x.1.ci.cells.toList ++ [.int .i64 x.1.un])).set 18 (.int .i64 0) = Value.string (Tx.str x.1.nm) :: (x.1.ci.cells.toList ++ [.int .i64 0])
  rw [List.set_cons_succ, List.set_append_right _ _ (by omega), hl]
  rfl
set_option linter.unusedSimpArgs false in
set_option maxRecDepth 100000 in
set_option maxHeartbeats 4000000 in
theorem bare_any (x : Pl) (w : World) :
    Calls Tryz.prog 97 #[.agg (pnC x.1)] w fun e w' => e = .returned (.agg (pnC (bareP x).1)) ∧ Below w.heap.size w w' := by
  have h19 := pnC_size x
  obtain ⟨w2, hw⟩ : ∃ w2, (w.alloc (.cells (pnC x.1) 97)).alloc (.cells #[Value.string ⟨#[]⟩, Value.int .u8 0, Value.int .u8 0, Value.int .u8 0, Value.int .u8 0, Value.int .u8 0, Value.int .u8 0, Value.int .u8 0, Value.int .u8 0, Value.int .u8 0, Value.int .u8 0, Value.int .u8 0, Value.int .u8 0, Value.int .u8 0, Value.int .u8 0, Value.int .u8 0, Value.int .u8 0, Value.int .i64 0, Value.int .i64 0] 97) = w2 := ⟨_, rfl⟩
  have hb1 : Blk w2 w.heap.size 97 (pnC x.1) := by rw [← hw]; exact (Blk.new w _ _).alloc _
  have hb2 : Blk w2 (w.heap.size + 1) 97 #[Value.string ⟨#[]⟩, Value.int .u8 0, Value.int .u8 0, Value.int .u8 0, Value.int .u8 0, Value.int .u8 0, Value.int .u8 0, Value.int .u8 0, Value.int .u8 0, Value.int .u8 0, Value.int .u8 0, Value.int .u8 0, Value.int .u8 0, Value.int .u8 0, Value.int .u8 0, Value.int .u8 0, Value.int .u8 0, Value.int .i64 0, Value.int .i64 0] := by
    have := Blk.new (w.alloc (.cells (pnC x.1) 97)) 97 #[Value.string ⟨#[]⟩, Value.int .u8 0, Value.int .u8 0, Value.int .u8 0, Value.int .u8 0, Value.int .u8 0, Value.int .u8 0, Value.int .u8 0, Value.int .u8 0, Value.int .u8 0, Value.int .u8 0, Value.int .u8 0, Value.int .u8 0, Value.int .u8 0, Value.int .u8 0, Value.int .u8 0, Value.int .u8 0, Value.int .i64 0, Value.int .i64 0]
    rw [alloc_size] at this
    rw [← hw]; exact this
  have hl : Below w.heap.size w w2 := by rw [← hw]; exact ((Below.refl _ _).alloc (Nat.le_refl _) _).alloc (by rw [alloc_size]; omega) _
  have HW := Lib.hid hw
  clear hw
  go_enter Tryz.func97, Tryz.ntmps97
  go_upto_region 1 with fail
  rw [HW.out]
  have c0 : w2.cell? ⟨w.heap.size, 18, none⟩ = some (.int .i64 x.1.un) := (hb1.cell 18).trans (pn_18 x)
  have f0 := hb1.frozen 18
  have hs := hb1.set_ 18 (.int .i64 0)
  rw [bare_cellsP] at hs
  have hs2 := hb2.far (p := ⟨w.heap.size, 18, none⟩) (show w.heap.size + 1 ≠ w.heap.size by omega) (.int .i64 0)
  have hl2 := hl.setCell (p := ⟨w.heap.size, 18, none⟩) (Nat.le_refl _) (.int .i64 0)
  have h19b := pnC_size (bareP x)
  clear hb1 hb2 hl HW
  go_upto_region 2 with fail
  clear c0 f0
  generalize w2.setCell ⟨w.heap.size, 18, none⟩ (.int .i64 0) = w3 at *
  have HL := Lib.hid hl2
  clear hl2
  go_wp2_with (first | (refine go_ld (x := .tmp 1) 97 hs undPn rfl infPn h19b rfl rfl rfl ?_) | (refine go_st 97 hs2 infPn rfl h19b (pnC_one _) rfl rfl rfl rfl ?_))
  refine ret_one Tryz.results97 (setRow_blk hs2) undPn rfl infPn h19b rfl ?_ rfl
  exact ⟨rfl, setRow_below HL.out hs2 (by omega) _⟩
set_option linter.unusedSimpArgs false in
set_option maxRecDepth 100000 in
set_option maxHeartbeats 4000000 in
theorem draft_any (w : World) :
    Calls Tryz.prog 56 #[] w fun e w' => ∃ d S, e = .returned (.pointer (some ⟨d, 0, none⟩)) ∧ DrP w' d S Pol.zero ∧ (∀ i ∈ S, w.heap.size ≤ i) ∧ d ∈ S ∧ Below w.heap.size w w' := by
  have hmm := @run_makeMap Tryz.prog
  have HN := Lib.hid (tnew_any w)
  go_enter Tryz.func56, Tryz.ntmps56
  go_wp2_with fail
  refine HN.out.mono ?_
  rintro e w1 ⟨g, S, rfl, hT, hS, hb⟩
  have HT := Lib.hid hT
  have HS := Lib.hid hS
  have HB := Lib.hid hb
  clear hT hS hb HN
  go_wp2_with fail
  go_ret
  have m1 := PinsIs.made w1
  have hlt := HT.out.lts
  obtain ⟨C, hC⟩ : ∃ C, drC false (.slice none 0 0) (.slice none 0 0) g w1.heap.size = C := ⟨_, rfl⟩
  have b2 := Blk.new (w1.alloc (.map #[] 0)) 108 C
  rw [alloc_size] at b2
  have l2 : Below w1.heap.size w1 ((w1.alloc (.map #[] 0)).alloc (.cells C 108)) := ((Below.refl _ _).alloc (Nat.le_refl _) _).alloc (by rw [alloc_size]; omega) _
  have m2 : PinsIs ((w1.alloc (.map #[] 0)).alloc (.cells C 108)) w1.heap.size 0 (.map []) [] := m1.but (S := []) (But.of_below ((Below.refl _ _).alloc (Nat.le_refl _) _) _) (fun hm => by cases hm)
  have t2 := HT.out.but (But.of_below l2 []) (fun _ _ hm => by cases hm)
  have z2 : ((w1.alloc (.map #[] 0)).alloc (.cells C 108)).heap.size = w1.heap.size + 2 := by rw [alloc_size, alloc_size]
  rw [← hC] at b2 m2 t2 z2 l2
  refine ⟨w1.heap.size + 1, (w1.heap.size + 1) :: w1.heap.size :: g :: S, by simp, ⟨rfl, [], .slice none 0 0, .slice none 0 0, g, S, w1.heap.size, 0, .map [], rfl, ⟨b2, OwnE.nil _ _ _, OwnE.nil _ _ _, t2, m2, by simp, by simp, fun i e => (by cases e), fun i e => (by cases e), fun i hi => by simp [List.mem_cons.1 hi], fun i hi => ?_, fun i hi => ?_⟩⟩, fun i hi => ?_, by simp, HB.out.trans (l2.mono HB.out.size)⟩
  · have := hlt i hi
    exact ⟨by omega, by omega, fun e => (by cases e), fun e => (by cases e)⟩
  · refine Nat.lt_of_lt_of_eq ?_ z2.symm
    rcases List.mem_cons.1 hi with rfl | hi
    · omega
    · rcases List.mem_cons.1 hi with rfl | hi
      · omega
      · have := hlt i hi; omega
  · have hz := HB.out.size
    rcases List.mem_cons.1 hi with rfl | hi
    · omega
    · rcases List.mem_cons.1 hi with rfl | hi
      · exact hz
      · exact HS.out i hi
end Go.Proofs.YtlpondbcnfaggaaGreatDoor.Po
