/-
  Rules, and steps (a node, a label), as keys of a map: each has one key, no two the same one. Plain lemmas; texts of up to a million bytes.
-/
import Derived.Test.YtlpondbcnfaggaaGreatDoorR13
import Derived.Maps.OwnSet
import Derived.Maps.Views
import Derived.WideKeyElems3
import Derived.DeepKeys4
import Derived.WalkArith
import Derived.MapViews
import Derived.Test.YtlpondbcnfaggaaGreatDoorR23
import Derived.Test.YtlpondbcnfaggaaGreatDoorR14
namespace Go.Proofs.YtlpondbcnfaggaaGreatDoor.Tr
open Go.RowKit Go.Proofs.YtlpondbcnfaggaaGreatDoor.Wd Go.Proofs.YtlpondbcnfaggaaGreatDoor.Asc Go.Proofs.YtlpondbcnfaggaaGreatDoor.Tx Go.Proofs.YtlpondbcnfaggaaGreatDoor.St Go.Maps

structure OkU (r : Ru) : Prop where
  p0 : -9223372036854775808 ≤ r.pr
  p1 : r.pr ≤ 9223372036854775807
  o0 : -9223372036854775808 ≤ r.po
  o1 : r.po ≤ 9223372036854775807
  pa : r.pa.length ≤ 1000000
  ap : r.ap.length ≤ 1000000
theorem laidOut : laidOutB Tryz.prog = true := by kernel_rfl
theorem rowU : (23 : TypeId) < Tryz.prog.types.size := of_decide_eq_true (by kernel_rfl)
theorem wideU : (match Tryz.prog.underlying 23 with | some (.array _ _) | some (.struct _) => true | _ => false) = true := by kernel_rfl
set_option maxRecDepth 100000 in
theorem lawU : Go.WideMaps.KeyLaw Tryz.prog 23 := deep_law_laid laidOut (m := 4) (by omega) rowU (by kernel_rfl) wideU
theorem keyedU : Keyed Tryz.prog 23 := Keyed.of_law lawU
theorem rowP : (133 : TypeId) < Tryz.prog.types.size := of_decide_eq_true (by kernel_rfl)
theorem wideP : (match Tryz.prog.underlying 133 with | some (.array _ _) | some (.struct _) => true | _ => false) = true := by kernel_rfl
set_option maxRecDepth 100000 in
theorem lawP : Go.WideMaps.KeyLaw Tryz.prog 133 := deep_law_laid laidOut (m := 4) (by omega) rowP (by kernel_rfl) wideP
theorem keyedP : Keyed Tryz.prog 133 := Keyed.of_law lawP

theorem klI (D : Nat) (n : Int) (h0 : -9223372036854775808 ≤ n) (h1 : n ≤ 9223372036854775807) : Tryz.prog.keyLits (D + 1) 3 [.int .i64 n] = some [.int .i64 n] := by
  simp [Program.keyLits, Tryz.underlying3, WalkArith.wf_i64 ⟨h0, h1⟩]
theorem klS (D : Nat) (l : List UInt8) (h : l.length ≤ 1000000) : Tryz.prog.keyLits (D + 1) 9 [.string (str l)] = some [.string l] := by
  have hz : (str l).size ≤ maxLen := by rw [str_size]; unfold maxLen; omega
  simp [Program.keyLits, Tryz.underlying9, hz]
theorem klB (D : Nat) (b : Bool) : Tryz.prog.keyLits (D + 1) 4 [.bool b] = some [.bool b] := by
  simp [Program.keyLits, Tryz.underlying4]
theorem cellsI : Tryz.prog.cellsOf 3 = 1 := by kernel_rfl
theorem cellsS : Tryz.prog.cellsOf 9 = 1 := by kernel_rfl
theorem cellsB : Tryz.prog.cellsOf 4 = 1 := by kernel_rfl
theorem cellsU : Tryz.prog.cellsOf 23 = 5 := by kernel_rfl
theorem cellsP : Tryz.prog.cellsOf 133 = 2 := by kernel_rfl
def litsU (r : Ru) : List Lit := [.bool r.al, .int .i64 r.pr, .string r.pa, .int .i64 r.po, .string r.ap]
theorem klU (D : Nat) (r : Ru) (h : OkU r) : Tryz.prog.keyLits (D + 2) 23 (ruC r).toList = some (litsU r) := by
  have k1 := klB D r.al
  have k2 := klI D r.pr h.p0 h.p1
  have k3 := klS D r.pa h.pa
  have k4 := klI D r.po h.o0 h.o1
  have k5 := klS D r.ap h.ap
  unfold Program.keyLits
  rw [Tryz.underlying23]
  simp [cellsU, cellsI, cellsS, cellsB, ruC, k1, k2, k3, k4, k5, litsU]
/-- a rule's key -/
def kU (r : Ru) : Lit := .string (keyBytes (litsU r))
theorem keyU (r : Ru) (h : OkU r) : keyOf Tryz.prog 23 (.agg (ruC r)) = some (kU r) := by
  have hk := klU (Tryz.prog.types.size - 1) r h
  have hT : 2 < Tryz.prog.types.size := of_decide_eq_true (by kernel_rfl)
  rw [show Tryz.prog.types.size - 1 + 2 = Tryz.prog.types.size + 1 by omega] at hk
  have hkt : Tryz.prog.keyType 23 = true := by kernel_rfl
  have hf : (Value.agg (ruC r)).formed Tryz.prog 23 = true := by
    simp [Value.formed, Tryz.underlying23, cellsU, ruC_size]
  unfold keyOf
  rw [Tryz.underlying23]
  show (if (Tryz.prog.keyType 23 && (Value.agg (ruC r)).formed Tryz.prog 23) = true then (Tryz.prog.keyLits (Tryz.prog.types.size + 1) 23 (Value.agg (ruC r)).cells.toList).map (fun ls => Lit.string (keyBytes ls)) else none) = _
  rw [hkt, hf, show (Value.agg (ruC r)).cells = ruC r from rfl, hk]
  rfl
theorem str_inj {a b : List UInt8} (h : str a = str b) : a = b := by
  have := congrArg bs h
  rwa [bs_str, bs_str] at this
theorem ruC_inj {r q : Ru} (h : ruC r = ruC q) : r = q := by
  obtain ⟨a, b, c, d, e⟩ := r
  obtain ⟨a', b', c', d', e'⟩ := q
  have h1 := congrArg Array.toList h
  simp only [ruC, List.cons.injEq, and_true] at h1
  obtain ⟨h1, h2, h3, h4, h5⟩ := h1
  injection h1 with h1
  injection h2 with _ h2
  injection h3 with h3
  injection h4 with _ h4
  injection h5 with h5
  rw [h1, h2, str_inj h3, h4, str_inj h5]
theorem kU_inj {r q : Ru} (hr : OkU r) (hq : OkU q) (h : kU r = kU q) : r = q := by
  have h3 : Value.agg (ruC r) = Value.agg (ruC q) := keyedU.inj (keyU r hr) ((keyU q hq).trans (congrArg some h.symm))
  exact ruC_inj (Value.agg.inj h3)
theorem kU_key (r : Ru) (h : OkU r) : WideAt.IsKeyLit (kU r) := keyedU.key (keyU r h)

/-- a step's cells -/
def spC (k : Nat) (x : List UInt8) : Array Value := #[.int .i64 (k : Nat), .string (str x)]
theorem klP (D : Nat) (k : Nat) (x : List UInt8) (hk : k ≤ 4294967296) (hx : x.length ≤ 1000000) : Tryz.prog.keyLits (D + 2) 133 (spC k x).toList = some [.int .i64 (k : Nat), .string x] := by
  have k1 := klI D (k : Nat) (by omega) (by omega)
  have k2 := klS D x hx
  unfold Program.keyLits
  rw [Tryz.underlying133]
  simp [cellsP, cellsI, cellsS, spC, k1, k2]
/-- a step's key -/
def kS (k : Nat) (x : List UInt8) : Lit := .string (keyBytes [.int .i64 (k : Nat), .string x])
theorem keyP (k : Nat) (x : List UInt8) (hk : k ≤ 4294967296) (hx : x.length ≤ 1000000) : keyOf Tryz.prog 133 (.agg (spC k x)) = some (kS k x) := by
  have hl := klP (Tryz.prog.types.size - 1) k x hk hx
  have hT : 2 < Tryz.prog.types.size := of_decide_eq_true (by kernel_rfl)
  rw [show Tryz.prog.types.size - 1 + 2 = Tryz.prog.types.size + 1 by omega] at hl
  have hkt : Tryz.prog.keyType 133 = true := by kernel_rfl
  have hf : (Value.agg (spC k x)).formed Tryz.prog 133 = true := by
    simp [Value.formed, Tryz.underlying133, cellsP, spC]
  unfold keyOf
  rw [Tryz.underlying133]
  show (if (Tryz.prog.keyType 133 && (Value.agg (spC k x)).formed Tryz.prog 133) = true then (Tryz.prog.keyLits (Tryz.prog.types.size + 1) 133 (Value.agg (spC k x)).cells.toList).map (fun ls => Lit.string (keyBytes ls)) else none) = _
  rw [hkt, hf, show (Value.agg (spC k x)).cells = spC k x from rfl, hl]
  rfl
theorem spC_inj {k m : Nat} {x y : List UInt8} (h : spC k x = spC m y) : k = m ∧ x = y := by
  have h1 := congrArg Array.toList h
  simp only [spC, List.cons.injEq, and_true] at h1
  obtain ⟨h1, h2⟩ := h1
  injection h1 with _ h1
  injection h2 with h2
  exact ⟨by omega, str_inj h2⟩
theorem kS_inj {k m : Nat} {x y : List UInt8} (h1 : k ≤ 4294967296) (h2 : x.length ≤ 1000000) (h3 : m ≤ 4294967296) (h4 : y.length ≤ 1000000) (h : kS k x = kS m y) : k = m ∧ x = y := by
  have h5 : Value.agg (spC k x) = Value.agg (spC m y) := keyedP.inj (keyP k x h1 h2) ((keyP m y h3 h4).trans (congrArg some h.symm))
  exact spC_inj (Value.agg.inj h5)
theorem kS_key (k : Nat) (x : List UInt8) (h1 : k ≤ 4294967296) (h2 : x.length ≤ 1000000) : WideAt.IsKeyLit (kS k x) := keyedP.key (keyP k x h1 h2)
theorem undThr : Tryz.prog.underlying 69 = some (.map 23 74) := by kernel_rfl
theorem undStp : Tryz.prog.underlying 70 = some (.map 133 3) := by kernel_rfl
theorem zeroT (w : World) : (zeroValue 74).run Tryz.prog w = .ok (.agg #[]) w := by kernel_rfl
end Go.Proofs.YtlpondbcnfaggaaGreatDoor.Tr

/-
  A trie of labels as it lies in memory: its rules, those that are there as keys, the steps from node to node, the nodes with their rows of places; what stays of it while other blocks turn; what one step more, one place more leaves. Plain lemmas, no condition.
-/
namespace Go.Proofs.YtlpondbcnfaggaaGreatDoor.Tr
open Go.RowKit Go.Proofs.YtlpondbcnfaggaaGreatDoor.Wd Go.Proofs.YtlpondbcnfaggaaGreatDoor.Asc Go.Proofs.YtlpondbcnfaggaaGreatDoor.Tx Go.Proofs.YtlpondbcnfaggaaGreatDoor.St Go.Proofs.YtlpondbcnfaggaaGreatDoor.Te Go.Maps

/-- where steps lead -/
structure Steps (D : DataW Unit) (PT : List (List (List UInt8))) : Prop where
  map : IsMap D
  has : ∀ (k : Nat) (x : List UInt8), k ≤ 4294967296 → x.length ≤ 1000000 → (Maps.has D (kS k x) = true ↔ ∃ q, PT[k]? = some q ∧ q ++ [x] ∈ PT)
  at_ : ∀ (k : Nat) (x : List UInt8) (q : List (List UInt8)) (j : Nat) (z : DataW Unit), k ≤ 4294967296 → x.length ≤ 1000000 → PT[k]? = some q → PT[j]? = some (q ++ [x]) → D.atKey (kS k x) z = .lit (.int .i64 (j : Nat))
  nd : PT.Nodup
  root : PT[0]? = some []
  pre : ∀ q x, q ++ [x] ∈ PT → q ∈ PT
theorem Steps.start : Steps (.map []) [[]] where
  map := isMap_empty
  has := fun k x _ _ => by
    constructor
    · intro h; simp [Maps.has] at h
    · rintro ⟨q, _, h⟩; simp at h
  at_ := fun k x q j z _ _ _ h => by
    match j, h with
    | 0, h => simp at h
    | j + 1, h => simp at h
  nd := by simp
  root := rfl
  pre := fun q x h => by simp at h
theorem snoc_inj {α : Type} {p q : List α} {x y : α} (h : p ++ [x] = q ++ [y]) : p = q ∧ x = y := by
  obtain ⟨a, b⟩ := List.append_inj' h rfl
  injection b with b _
  exact ⟨a, b⟩
theorem nodup_at {α : Type} {l : List α} (h : l.Nodup) {i j : Nat} {x : α} (hi : l[i]? = some x) (hj : l[j]? = some x) : i = j := by
  have hl := (List.getElem?_eq_some_iff.1 hi).1
  exact (List.getElem?_inj hl h).1 (hi.trans hj.symm)
theorem at_snoc {α : Type} {l : List α} {i : Nat} {x y : α} (h : (l ++ [x])[i]? = some y) : (i < l.length ∧ l[i]? = some y) ∨ (i = l.length ∧ y = x) := by
  rcases Nat.lt_or_ge i l.length with hl | hl
  · rw [List.getElem?_append_left hl] at h
    exact .inl ⟨hl, h⟩
  · rw [List.getElem?_append_right hl] at h
    match hk : i - l.length, h with
    | 0, h => exact .inr ⟨by omega, by simpa using h.symm⟩
    | k + 1, h => simp at h
theorem snoc_at {α : Type} {l : List α} {i : Nat} {x y : α} (h : l[i]? = some y) : (l ++ [x])[i]? = some y := by
  rw [List.getElem?_append_left (List.getElem?_eq_some_iff.1 h).1]
  exact h
theorem snoc_last {α : Type} (l : List α) (x : α) : (l ++ [x])[l.length]? = some x := by
  rw [List.getElem?_append_right (Nat.le_refl _)]
  simp
theorem Steps.put {D : DataW Unit} {PT : List (List (List UInt8))} (h : Steps D PT) {k : Nat} {x : List UInt8} {q : List (List UInt8)} (hk : k ≤ 4294967296) (hx : x.length ≤ 1000000) (hq : PT[k]? = some q) (hn : q ++ [x] ∉ PT) :
    Steps (D.put (kS k x) (.lit (.int .i64 (PT.length : Nat)))) (PT ++ [q ++ [x]]) := by
  have hqm : q ∈ PT := List.mem_of_getElem? hq
  have far : ∀ {k' x'}, k' ≤ 4294967296 → x'.length ≤ 1000000 → kS k' x' ≠ kS k x → ∀ q', PT[k']? = some q' → q' ++ [x'] = q ++ [x] → False := by
    intro k' x' _ _ e q' h1 h2
    obtain ⟨rfl, rfl⟩ := snoc_inj h2
    exact e (by rw [nodup_at h.nd h1 hq])
  have deep : ∀ x', (q ++ [x]) ++ [x'] ∉ PT ++ [q ++ [x]] := by
    intro x' hm
    rcases List.mem_append.1 hm with hm | hm
    · exact hn (h.pre _ _ hm)
    · rw [List.mem_singleton] at hm
      have := congrArg List.length hm
      simp at this
  refine ⟨h.map.put _ _, fun k' x' h1 h2 => ?_, fun k' x' q' j z h1 h2 h3 h4 => ?_, ?_, snoc_at h.root, fun q' x' hm => ?_⟩
  · by_cases e : kS k' x' = kS k x
    · obtain ⟨rfl, rfl⟩ := kS_inj h1 h2 hk hx e
      rw [has_put_same h.map (kS_key _ _ hk hx)]
      exact ⟨fun _ => ⟨q, snoc_at hq, by simp⟩, fun _ => rfl⟩
    · rw [has_put_other e, h.has k' x' h1 h2]
      constructor
      · rintro ⟨q', a, b⟩
        exact ⟨q', snoc_at a, by simp [b]⟩
      · rintro ⟨q', a, b⟩
        rcases at_snoc a with ⟨_, a⟩ | ⟨_, rfl⟩
        · rcases List.mem_append.1 b with b | b
          · exact ⟨q', a, b⟩
          · exact (far h1 h2 e q' a (List.mem_singleton.1 b)).elim
        · exact absurd b (deep x')
  · by_cases e : kS k' x' = kS k x
    · obtain ⟨rfl, rfl⟩ := kS_inj h1 h2 hk hx e
      rw [atKey_put_same h.map (kS_key _ _ hk hx)]
      have : q' = q := by
        have := snoc_at (x := q ++ [x']) hq
        rw [h3] at this
        injection this
      subst this
      rcases at_snoc h4 with ⟨_, a⟩ | ⟨a, _⟩
      · exact absurd (List.mem_of_getElem? a) hn
      · rw [a]
    · rw [atKey_put_other e]
      rcases at_snoc h3 with ⟨_, a⟩ | ⟨_, rfl⟩
      · rcases at_snoc h4 with ⟨_, b⟩ | ⟨_, b⟩
        · exact h.at_ k' x' q' j z h1 h2 a b
        · exact (far h1 h2 e q' a b).elim
      · exact absurd (List.mem_of_getElem? h4) (deep x')
  · rw [List.nodup_append]
    refine ⟨h.nd, by simp, fun a ha b hb => ?_⟩
    rw [List.mem_singleton] at hb
    rintro rfl
    exact hn (hb ▸ ha)
  · rcases List.mem_append.1 hm with hm | hm
    · exact List.mem_append_left _ (h.pre _ _ hm)
    · obtain ⟨rfl, _⟩ := snoc_inj (List.mem_singleton.1 hm)
      exact List.mem_append_left _ hqm
/-- no path goes on where one step is missing -/
theorem Steps.short {D : DataW Unit} {PT : List (List (List UInt8))} (h : Steps D PT) {hl : List (List UInt8)} {i : Nat} (hi : hl.take i ∉ PT) : ∀ j, i ≤ j → hl.take j ∉ PT := by
  intro j hj
  induction j with
  | zero => obtain rfl : i = 0 := by omega
            exact hi
  | succ j ih =>
    by_cases e : i = j + 1
    · rw [← e]; exact hi
    · have h1 := ih (by omega)
      intro hm
      rcases Nat.lt_or_ge j hl.length with hlt | hge
      · rw [List.take_succ_eq_append_getElem hlt] at hm
        exact h1 (h.pre _ _ hm)
      · rw [List.take_of_length_le (by omega)] at hm
        rw [List.take_of_length_le (by omega)] at h1
        exact h1 hm

theorem map_but {S : List Nat} {w w' : World} {k : TypeId} {R : Value → Option (DataW Unit × List MemPlace)} {b n : Nat} {D : DataW Unit} (h : w.ownsMap Tryz.prog k R b n D) (kk : But S w w') (hb : b ∉ S) : w'.ownsMap Tryz.prog k R b n D := by
  have hlt := h.lt
  obtain ⟨es, clock, hh, r⟩ := h
  exact ⟨es, clock, (kk.block b hlt hb).trans hh, r⟩
set_option maxRecDepth 100000 in
theorem map_ne {w : World} {k : TypeId} {R : Value → Option (DataW Unit × List MemPlace)} {b n g t : Nat} {D : DataW Unit} {cs : Array Value} (h : w.ownsMap Tryz.prog k R b n D) (hb : Blk w g t cs) : b ≠ g := by
  rintro rfl
  obtain ⟨es, clock, hh, _⟩ := h
  have h2 := hb.heap
  rw [hh] at h2
  injection h2 with h2
  exact absurd h2 (by intro h; cases h)
theorem OwnU.typ {w : World} {B : Nat} {v : Value} {l : List Ru} (h : OwnU w B v l) : ∀ b, v.ownBlock = some b → ∃ cur, Blk w b 23 cur := by
  obtain ⟨hl, ⟨rfl, h0⟩ | ⟨g, cap, cur, rfl, hg, hh, r⟩⟩ := h
  · exact fun g e => by cases e
  · exact fun g' e' => by
      have e2 : g = g' := Option.some.inj e'
      rw [← e2]
      exact ⟨cur, hh⟩

/-- the nodes: steps, and at each node its rows of places; in the blocks S -/
structure NodesIs (w : World) (S : List Nat) (L : List Ru) (sb sn : Nat) (D : DataW Unit) (vn : Value) (N : List (Sv × Sv)) (PT : List (List (List UInt8))) : Prop where
  stp : w.ownsMap Tryz.prog 133 (plainElem Tryz.prog 3) sb sn D
  ste : Steps D PT
  nod : OwnE w elN 0 vn N
  len : N.length = PT.length
  jus : ∀ (k : Nat) (s : Sv × Sv) (q : List (List UInt8)), N[k]? = some s → PT[k]? = some q → OwnE w elP 0 s.1.v (jusR L q)
  bel : ∀ (k : Nat) (s : Sv × Sv) (q : List (List UInt8)), N[k]? = some s → PT[k]? = some q → OwnE w elP 0 s.2.v (belR L q)
  dis : ∀ (k m : Nat) (s t : Sv × Sv), N[k]? = some s → N[m]? = some t → ∀ b, (s.1.v.ownBlock = some b → t.2.v.ownBlock ≠ some b) ∧ (k ≠ m → s.1.v.ownBlock = some b → t.1.v.ownBlock ≠ some b) ∧ (k ≠ m → s.2.v.ownBlock = some b → t.2.v.ownBlock ≠ some b)
  all : ∀ r ∈ L, wayP r.pa ∈ PT
  in1 : sb ∈ S
  in2 : ∀ b, vn.ownBlock = some b → b ∈ S
  in3 : ∀ s ∈ N, ∀ b, (s.1.v.ownBlock = some b ∨ s.2.v.ownBlock = some b) → b ∈ S
section
variable {w w' : World} {S S' S1 : List Nat} {L : List Ru} {sb sn : Nat} {D : DataW Unit} {vn : Value} {N : List (Sv × Sv)} {PT : List (List (List UInt8))}
theorem NodesIs.but (h : NodesIs w S L sb sn D vn N PT) (k : But S' w w') (hS : ∀ i ∈ S, i ∉ S') : NodesIs w' S L sb sn D vn N PT where
  stp := map_but h.stp k (hS _ h.in1)
  ste := h.ste
  nod := h.nod.but k (fun b hb => hS b (h.in2 b hb))
  len := h.len
  jus := fun i s q h1 h2 => (h.jus i s q h1 h2).but k (fun b hb => hS b (h.in3 s (List.mem_of_getElem? h1) b (.inl hb)))
  bel := fun i s q h1 h2 => (h.bel i s q h1 h2).but k (fun b hb => hS b (h.in3 s (List.mem_of_getElem? h1) b (.inr hb)))
  dis := h.dis
  all := h.all
  in1 := h.in1
  in2 := h.in2
  in3 := h.in3
theorem NodesIs.below (h : NodesIs w S L sb sn D vn N PT) (hb : Below w.heap.size w w') : NodesIs w' S L sb sn D vn N PT := h.but (But.of_below hb []) (fun _ _ h => by cases h)
theorem NodesIs.more (h : NodesIs w S L sb sn D vn N PT) (hS : ∀ i ∈ S, i ∈ S') : NodesIs w S' L sb sn D vn N PT :=
  ⟨h.stp, h.ste, h.nod, h.len, h.jus, h.bel, h.dis, h.all, hS _ h.in1, fun b hb => hS b (h.in2 b hb), fun s hs b hb => hS b (h.in3 s hs b hb)⟩
theorem row_none {f : Ru → Bool} {L : List Ru} (h : ∀ r ∈ L, f r = false) : plc f L = [] := by
  cases hp : plc f L with
  | nil => rfl
  | cons i l =>
    have hi : i ∈ plc f L := by rw [hp]; simp
    obtain ⟨r, h1, h2⟩ := plc_mem.1 hi
    rw [h r (List.mem_of_getElem? h1)] at h2
    cases h2
theorem no_row (h : NodesIs w S L sb sn D vn N PT) {q : List (List UInt8)} (hq : q ∉ PT) : jusR L q = [] ∧ belR L q = [] := by
  constructor
  · refine row_none fun r hr => ?_
    rw [Bool.and_eq_false_iff]
    exact .inr (decide_eq_false fun e => hq (e ▸ h.all r hr))
  · refine row_none fun r hr => ?_
    rw [Bool.and_eq_false_iff]
    exact .inr (decide_eq_false fun e => hq (e ▸ h.all r hr))
/-- one step more -/
theorem NodesIs.add_step (h : NodesIs w S L sb sn D vn N PT) {k : Nat} {x : List UInt8} {q : List (List UInt8)} (hk : k ≤ 4294967296) (hx : x.length ≤ 1000000) (hq : PT[k]? = some q) (hn : q ++ [x] ∉ PT) {sn' : Nat} {vn' : Value}
    (hm : w'.ownsMap Tryz.prog 133 (plainElem Tryz.prog 3) sb sn' (D.put (kS k x) (.lit (.int .i64 (PT.length : Nat))))) (ho : OwnE w' elN 0 vn' (N ++ [(Sv.zero, Sv.zero)]))
    (hb : But S1 w w') (hS1 : ∀ b ∈ S1, ∀ cur, ¬ Blk w b 3 cur) (hS : ∀ i ∈ S, i ∈ S') (hv : ∀ b, vn'.ownBlock = some b → b ∈ S') :
    NodesIs w' S' L sb sn' (D.put (kS k x) (.lit (.int .i64 (PT.length : Nat)))) vn' (N ++ [(Sv.zero, Sv.zero)]) (PT ++ [q ++ [x]]) := by
  obtain ⟨n1, n2⟩ := no_row h hn
  have z : Sv.zero.v.ownBlock = none := rfl
  refine ⟨hm, h.ste.put hk hx hq hn, ho, by rw [List.length_append, List.length_append, h.len]; rfl, fun i s q' h1 h2 => ?_, fun i s q' h1 h2 => ?_, fun i m s t h1 h2 b => ?_, fun r hr => List.mem_append_left _ (h.all r hr), hS _ h.in1, hv, fun s hs b hb => ?_⟩
  · rcases at_snoc h1 with ⟨hl, h1⟩ | ⟨hl, rfl⟩
    · rcases at_snoc h2 with ⟨_, h2⟩ | ⟨hl2, _⟩
      · exact (h.jus i s q' h1 h2).but hb (fun b hb hm => by
          obtain ⟨cur, hc⟩ := (h.jus i s q' h1 h2).typ b hb
          exact hS1 b hm cur hc)
      · rw [h.len] at hl; omega
    · rcases at_snoc h2 with ⟨hl2, _⟩ | ⟨_, rfl⟩
      · rw [h.len] at hl; omega
      · rw [n1]; exact OwnE.nil w' elP 0
  · rcases at_snoc h1 with ⟨hl, h1⟩ | ⟨hl, rfl⟩
    · rcases at_snoc h2 with ⟨_, h2⟩ | ⟨hl2, _⟩
      · exact (h.bel i s q' h1 h2).but hb (fun b hb hm => by
          obtain ⟨cur, hc⟩ := (h.bel i s q' h1 h2).typ b hb
          exact hS1 b hm cur hc)
      · rw [h.len] at hl; omega
    · rcases at_snoc h2 with ⟨hl2, _⟩ | ⟨_, rfl⟩
      · rw [h.len] at hl; omega
      · rw [n2]; exact OwnE.nil w' elP 0
  · rcases at_snoc h1 with ⟨_, h1⟩ | ⟨_, rfl⟩
    · rcases at_snoc h2 with ⟨_, h2⟩ | ⟨_, rfl⟩
      · exact h.dis i m s t h1 h2 b
      · simp [z]
    · simp [z]
  · rcases List.mem_append.1 hs with hs | hs
    · exact hS b (h.in3 s hs b hb)
    · rw [List.mem_singleton] at hs
      subst hs
      rcases hb with hb | hb <;> cases hb
theorem bel_snoc (L : List Ru) (r : Ru) (q : List (List UInt8)) : belR (L ++ [r]) q = belR L q ++ (if (belB r.pa && decide (wayP r.pa = q)) = true then [L.length] else []) := plc_snoc _ _ _
theorem jus_snoc (L : List Ru) (r : Ru) (q : List (List UInt8)) : jusR (L ++ [r]) q = jusR L q ++ (if (!belB r.pa && decide (wayP r.pa = q)) = true then [L.length] else []) := plc_snoc _ _ _
/-- one place more, of a rule that matches what has more labels -/
theorem NodesIs.add_bel (h : NodesIs w S L sb sn D vn N PT) {k : Nat} {s : Sv × Sv} {s' : Sv} {q : List (List UInt8)} {r : Ru} (hs : N[k]? = some s) (hq : PT[k]? = some q) (hr : wayP r.pa = q) (hbl : belB r.pa = true)
    (ho : OwnE w' elP 0 s'.v (belR L q ++ [L.length])) (hf : s'.v.ownBlock = s.2.v.ownBlock ∨ ∃ b, s'.v.ownBlock = some b ∧ w.heap.size ≤ b) (hn : OwnE w' elN 0 vn (N.set k (s.1, s')))
    (hb : But S1 w w') (hS1 : ∀ b ∈ S1, s.2.v.ownBlock = some b ∨ ∃ cur, Blk w b 128 cur) (hS : ∀ i ∈ S, i ∈ S') (hv : ∀ b, s'.v.ownBlock = some b → b ∈ S') :
    NodesIs w' S' (L ++ [r]) sb sn D vn (N.set k (s.1, s')) PT := by
  have hkl := (List.getElem?_eq_some_iff.1 hs).1
  have keep : ∀ (v : Value) (l : List Nat), OwnE w elP 0 v l → (∀ b, v.ownBlock = some b → s.2.v.ownBlock ≠ some b) → OwnE w' elP 0 v l := fun v l h1 h2 => h1.but hb (fun b e hm => by
    rcases hS1 b hm with h3 | ⟨cur, h3⟩
    · exact h2 b e h3
    · obtain ⟨cur', h4⟩ := h1.typ b e
      exact absurd rfl (h3.ne_ h4 (by decide)))
  have old : ∀ (i : Nat) (t : Sv × Sv), (N.set k (s.1, s'))[i]? = some t → (i = k ∧ t = (s.1, s')) ∨ (i ≠ k ∧ N[i]? = some t) := fun i t ht => by
    rw [List.getElem?_set] at ht
    by_cases e : k = i
    · subst e
      rw [if_pos rfl, if_pos hkl] at ht
      injection ht with ht
      exact .inl ⟨rfl, ht.symm⟩
    · rw [if_neg e] at ht
      exact .inr ⟨fun e' => e e'.symm, ht⟩
  have lts : ∀ (i : Nat) (t : Sv × Sv), N[i]? = some t → ∀ b, (t.1.v.ownBlock = some b ∨ t.2.v.ownBlock = some b) → b < w.heap.size := fun i t ht b e => by
    obtain ⟨q', hq'⟩ : ∃ q', PT[i]? = some q' := ⟨_, List.getElem?_eq_getElem (by rw [← h.len]; exact (List.getElem?_eq_some_iff.1 ht).1)⟩
    rcases e with e | e
    · exact (h.jus i t q' ht hq').lt b e
    · exact (h.bel i t q' ht hq').lt b e
  refine ⟨map_but h.stp hb (fun hm => ?_), h.ste, hn, by rw [List.length_set]; exact h.len, fun i t q' h1 h2 => ?_, fun i t q' h1 h2 => ?_, fun i m t u h1 h2 b => ?_, fun x hx => ?_, hS _ h.in1, fun b e => hS b (h.in2 b e), fun t ht b e => ?_⟩
  · rcases hS1 _ hm with h3 | ⟨cur, h3⟩
    · obtain ⟨cur, h4⟩ := (h.bel k s q hs hq).typ _ h3
      exact map_ne h.stp h4 rfl
    · exact map_ne h.stp h3 rfl
  · rw [jus_snoc, hbl, if_neg (by simp), List.append_nil]
    rcases old i t h1 with ⟨rfl, rfl⟩ | ⟨hne, h3⟩
    · exact keep _ _ (h.jus i s q' hs h2) (fun b e => (h.dis i i s s hs hs b).1 e)
    · exact keep _ _ (h.jus i t q' h3 h2) (fun b e => (h.dis i k t s h3 hs b).1 e)
  · rw [bel_snoc, hbl, hr]
    rcases old i t h1 with ⟨rfl, rfl⟩ | ⟨hne, h3⟩
    · rw [hq] at h2
      injection h2 with h2
      subst h2
      rw [if_pos (by simp)]
      exact ho
    · rw [if_neg (by
        rw [Bool.true_and, decide_eq_true_eq]
        rintro rfl
        exact hne (nodup_at h.ste.nd h2 hq)), List.append_nil]
      exact keep _ _ (h.bel i t q' h3 h2) (fun b e => (h.dis i k t s h3 hs b).2.2 hne e)
  · rcases old i t h1 with ⟨rfl, rfl⟩ | ⟨n1, h3⟩
    · rcases old m u h2 with ⟨rfl, rfl⟩ | ⟨n2, h4⟩
      · refine ⟨fun e1 e2 => ?_, fun n => absurd rfl n, fun n => absurd rfl n⟩
        rcases hf with hf | ⟨c, hf, hc⟩
        · rw [hf] at e2
          exact (h.dis m m s s hs hs b).1 e1 e2
        · rw [hf] at e2
          injection e2 with e2
          have := lts m s hs b (.inl e1)
          omega
      · refine ⟨fun e1 e2 => (h.dis i m s u hs h4 b).1 e1 e2, fun n e1 e2 => (h.dis i m s u hs h4 b).2.1 n e1 e2, fun n e1 e2 => ?_⟩
        rcases hf with hf | ⟨c, hf, hc⟩
        · rw [hf] at e1
          exact (h.dis i m s u hs h4 b).2.2 n e1 e2
        · rw [hf] at e1
          injection e1 with e1
          have := lts m u h4 b (.inr e2)
          omega
    · rcases old m u h2 with ⟨rfl, rfl⟩ | ⟨n2, h4⟩
      · refine ⟨fun e1 e2 => ?_, fun n e1 e2 => (h.dis i m t s h3 hs b).2.1 n e1 e2, fun n e1 e2 => ?_⟩
        · rcases hf with hf | ⟨c, hf, hc⟩
          · rw [hf] at e2
            exact (h.dis i m t s h3 hs b).1 e1 e2
          · rw [hf] at e2
            injection e2 with e2
            have := lts i t h3 b (.inl e1)
            omega
        · rcases hf with hf | ⟨c, hf, hc⟩
          · rw [hf] at e2
            exact (h.dis i m t s h3 hs b).2.2 n e1 e2
          · rw [hf] at e2
            injection e2 with e2
            have := lts i t h3 b (.inr e1)
            omega
      · exact h.dis i m t u h3 h4 b
  · rcases List.mem_append.1 hx with hx | hx
    · exact h.all x hx
    · rw [List.mem_singleton] at hx
      subst hx
      rw [hr]
      exact List.mem_of_getElem? hq
  · obtain ⟨i, hi⟩ := List.getElem?_of_mem ht
    rcases old i t hi with ⟨rfl, rfl⟩ | ⟨_, h3⟩
    · rcases e with e | e
      · exact hS b (h.in3 s (List.mem_of_getElem? hs) b (.inl e))
      · exact hv b e
    · exact hS b (h.in3 t (List.mem_of_getElem? h3) b e)
/-- one place more, of a rule that matches just these -/
theorem NodesIs.add_jus (h : NodesIs w S L sb sn D vn N PT) {k : Nat} {s : Sv × Sv} {s' : Sv} {q : List (List UInt8)} {r : Ru} (hs : N[k]? = some s) (hq : PT[k]? = some q) (hr : wayP r.pa = q) (hbl : belB r.pa = false)
    (ho : OwnE w' elP 0 s'.v (jusR L q ++ [L.length])) (hf : s'.v.ownBlock = s.1.v.ownBlock ∨ ∃ b, s'.v.ownBlock = some b ∧ w.heap.size ≤ b) (hn : OwnE w' elN 0 vn (N.set k (s', s.2)))
    (hb : But S1 w w') (hS1 : ∀ b ∈ S1, s.1.v.ownBlock = some b ∨ ∃ cur, Blk w b 128 cur) (hS : ∀ i ∈ S, i ∈ S') (hv : ∀ b, s'.v.ownBlock = some b → b ∈ S') :
    NodesIs w' S' (L ++ [r]) sb sn D vn (N.set k (s', s.2)) PT := by
  have hkl := (List.getElem?_eq_some_iff.1 hs).1
  have keep : ∀ (v : Value) (l : List Nat), OwnE w elP 0 v l → (∀ b, v.ownBlock = some b → s.1.v.ownBlock ≠ some b) → OwnE w' elP 0 v l := fun v l h1 h2 => h1.but hb (fun b e hm => by
    rcases hS1 b hm with h3 | ⟨cur, h3⟩
    · exact h2 b e h3
    · obtain ⟨cur', h4⟩ := h1.typ b e
      exact absurd rfl (h3.ne_ h4 (by decide)))
  have old : ∀ (i : Nat) (t : Sv × Sv), (N.set k (s', s.2))[i]? = some t → (i = k ∧ t = (s', s.2)) ∨ (i ≠ k ∧ N[i]? = some t) := fun i t ht => by
    rw [List.getElem?_set] at ht
    by_cases e : k = i
    · subst e
      rw [if_pos rfl, if_pos hkl] at ht
      injection ht with ht
      exact .inl ⟨rfl, ht.symm⟩
    · rw [if_neg e] at ht
      exact .inr ⟨fun e' => e e'.symm, ht⟩
  have lts : ∀ (i : Nat) (t : Sv × Sv), N[i]? = some t → ∀ b, (t.1.v.ownBlock = some b ∨ t.2.v.ownBlock = some b) → b < w.heap.size := fun i t ht b e => by
    obtain ⟨q', hq'⟩ : ∃ q', PT[i]? = some q' := ⟨_, List.getElem?_eq_getElem (by rw [← h.len]; exact (List.getElem?_eq_some_iff.1 ht).1)⟩
    rcases e with e | e
    · exact (h.jus i t q' ht hq').lt b e
    · exact (h.bel i t q' ht hq').lt b e
  refine ⟨map_but h.stp hb (fun hm => ?_), h.ste, hn, by rw [List.length_set]; exact h.len, fun i t q' h1 h2 => ?_, fun i t q' h1 h2 => ?_, fun i m t u h1 h2 b => ?_, fun x hx => ?_, hS _ h.in1, fun b e => hS b (h.in2 b e), fun t ht b e => ?_⟩
  · rcases hS1 _ hm with h3 | ⟨cur, h3⟩
    · obtain ⟨cur, h4⟩ := (h.jus k s q hs hq).typ _ h3
      exact map_ne h.stp h4 rfl
    · exact map_ne h.stp h3 rfl
  · rw [jus_snoc, hbl, hr]
    rcases old i t h1 with ⟨rfl, rfl⟩ | ⟨hne, h3⟩
    · rw [hq] at h2
      injection h2 with h2
      subst h2
      rw [if_pos (by simp)]
      exact ho
    · rw [if_neg (by
        rw [Bool.not_false, Bool.true_and, decide_eq_true_eq]
        rintro rfl
        exact hne (nodup_at h.ste.nd h2 hq)), List.append_nil]
      exact keep _ _ (h.jus i t q' h3 h2) (fun b e => (h.dis i k t s h3 hs b).2.1 hne e)
  · rw [bel_snoc, hbl, if_neg (by simp), List.append_nil]
    rcases old i t h1 with ⟨rfl, rfl⟩ | ⟨hne, h3⟩
    · exact keep _ _ (h.bel i s q' hs h2) (fun b e e' => (h.dis i i s s hs hs b).1 e' e)
    · exact keep _ _ (h.bel i t q' h3 h2) (fun b e e' => (h.dis k i s t hs h3 b).1 e' e)
  · rcases old i t h1 with ⟨rfl, rfl⟩ | ⟨n1, h3⟩
    · rcases old m u h2 with ⟨rfl, rfl⟩ | ⟨n2, h4⟩
      · refine ⟨fun e1 e2 => ?_, fun n => absurd rfl n, fun n => absurd rfl n⟩
        rcases hf with hf | ⟨c, hf, hc⟩
        · rw [hf] at e1
          exact (h.dis m m s s hs hs b).1 e1 e2
        · rw [hf] at e1
          injection e1 with e1
          have := lts m s hs b (.inr e2)
          omega
      · refine ⟨fun e1 e2 => ?_, fun n e1 e2 => ?_, fun n e1 e2 => (h.dis i m s u hs h4 b).2.2 n e1 e2⟩
        · rcases hf with hf | ⟨c, hf, hc⟩
          · rw [hf] at e1
            exact (h.dis i m s u hs h4 b).1 e1 e2
          · rw [hf] at e1
            injection e1 with e1
            have := lts m u h4 b (.inr e2)
            omega
        · rcases hf with hf | ⟨c, hf, hc⟩
          · rw [hf] at e1
            exact (h.dis i m s u hs h4 b).2.1 n e1 e2
          · rw [hf] at e1
            injection e1 with e1
            have := lts m u h4 b (.inl e2)
            omega
    · rcases old m u h2 with ⟨rfl, rfl⟩ | ⟨n2, h4⟩
      · refine ⟨fun e1 e2 => (h.dis i m t s h3 hs b).1 e1 e2, fun n e1 e2 => ?_, fun n e1 e2 => (h.dis i m t s h3 hs b).2.2 n e1 e2⟩
        rcases hf with hf | ⟨c, hf, hc⟩
        · rw [hf] at e2
          exact (h.dis i m t s h3 hs b).2.1 n e1 e2
        · rw [hf] at e2
          injection e2 with e2
          have := lts i t h3 b (.inl e1)
          omega
      · exact h.dis i m t u h3 h4 b
  · rcases List.mem_append.1 hx with hx | hx
    · exact h.all x hx
    · rw [List.mem_singleton] at hx
      subst hx
      rw [hr]
      exact List.mem_of_getElem? hq
  · obtain ⟨i, hi⟩ := List.getElem?_of_mem ht
    rcases old i t hi with ⟨rfl, rfl⟩ | ⟨_, h3⟩
    · rcases e with e | e
      · exact hv b e
      · exact hS b (h.in3 s (List.mem_of_getElem? hs) b (.inr e))
    · exact hS b (h.in3 t (List.mem_of_getElem? h3) b e)
end
end Go.Proofs.YtlpondbcnfaggaaGreatDoor.Tr

/-
  The landed trie's own word: at a block a trie, which leads to such blocks, with such rules; contract of New. Condition: none.
-/
namespace Go.Proofs.YtlpondbcnfaggaaGreatDoor.Tr
open Go.RowKit Go.Proofs.YtlpondbcnfaggaaGreatDoor.Wd Go.Proofs.YtlpondbcnfaggaaGreatDoor.Asc Go.Proofs.YtlpondbcnfaggaaGreatDoor.Tx Go.Proofs.YtlpondbcnfaggaaGreatDoor.St Go.Proofs.YtlpondbcnfaggaaGreatDoor.Te Go.Maps

theorem und4 : Tryz.prog.underlying 73 = some (.struct (Tryz.prog.fieldsOf 73)) := by kernel_rfl
/-- a trie's cells -/
def trC4 (vr : Value) (tb sb : Nat) (vn : Value) : Array Value := #[vr, .map (some tb), .map (some sb), vn]
/-- a trie at block g, its rules in the blocks S1, its nodes in the blocks S2 -/
structure TriI (w : World) (g : Nat) (S1 S2 : List Nat) (L : List Ru) (vr : Value) (tb tn : Nat) (T : DataW Unit) (sb sn : Nat) (D : DataW Unit) (vn : Value) (N : List (Sv × Sv)) (PT : List (List (List UInt8))) : Prop where
  blk : Blk w g 73 (trC4 vr tb sb vn)
  rul : OwnU w 0 vr L
  thr : w.ownsMap Tryz.prog 23 (unitElem (H := Unit)) tb tn T
  tha : ∀ q, OkU q → (Maps.has T (kU q) = true ↔ ∃ x ∈ L, { x with al := false } = q)
  nod : NodesIs w S2 L sb sn D vn N PT
  in1 : ∀ b, vr.ownBlock = some b → b ∈ S1
  in2 : tb ∈ S1
  apart : ∀ i ∈ S1, i ∉ S2
  g1 : g ∉ S1
  g2 : g ∉ S2
  lt1 : ∀ i ∈ S1, i < w.heap.size
  lt2 : ∀ i ∈ S2, i < w.heap.size
  right : ∀ r ∈ L, rightS r = 0
  most : L.length ≤ 200
  pts : PT.length ≤ 1 + 300 * L.length
  tns : tn ≤ L.length
  sns : sn ≤ PT.length
theorem TriI.but {w w' : World} {g : Nat} {S1 S2 S' : List Nat} {L : List Ru} {vr : Value} {tb tn : Nat} {T : DataW Unit} {sb sn : Nat} {D : DataW Unit} {vn : Value} {N : List (Sv × Sv)} {PT : List (List (List UInt8))}
    (h : TriI w g S1 S2 L vr tb tn T sb sn D vn N PT) (k : But S' w w') (hg : g ∉ S') (h1 : ∀ i ∈ S1, i ∉ S') (h2 : ∀ i ∈ S2, i ∉ S') : TriI w' g S1 S2 L vr tb tn T sb sn D vn N PT where
  blk := h.blk.but k hg
  rul := h.rul.but k (fun b hb => h1 b (h.in1 b hb))
  thr := map_but h.thr k (h1 _ h.in2)
  tha := h.tha
  nod := h.nod.but k h2
  in1 := h.in1
  in2 := h.in2
  apart := h.apart
  g1 := h.g1
  g2 := h.g2
  lt1 := fun i hi => Nat.lt_of_lt_of_le (h.lt1 i hi) k.size
  lt2 := fun i hi => Nat.lt_of_lt_of_le (h.lt2 i hi) k.size
  right := h.right
  most := h.most
  pts := h.pts
  tns := h.tns
  sns := h.sns
/-- at block g lies a trie, which leads to the blocks S, with the rules L -/
def TriP (w : World) (g : Nat) (S : List Nat) (L : List Ru) : Prop :=
  ∃ S1 S2 vr tb tn T sb sn D vn N PT, (∀ i, i ∈ S ↔ i ∈ S1 ∨ i ∈ S2) ∧ TriI w g S1 S2 L vr tb tn T sb sn D vn N PT
theorem TriP.lts {w : World} {g : Nat} {S : List Nat} {L : List Ru} (h : TriP w g S L) : ∀ i ∈ g :: S, i < w.heap.size := by
  obtain ⟨S1, S2, vr, tb, tn, T, sb, sn, D, vn, N, PT, hS, h⟩ := h
  intro i hi
  rcases List.mem_cons.1 hi with rfl | hi
  · exact h.blk.lt
  · rcases (hS i).1 hi with hi | hi
    · exact h.lt1 i hi
    · exact h.lt2 i hi
theorem TriP.but {w w' : World} {g : Nat} {S S' : List Nat} {L : List Ru} (h : TriP w g S L) (k : But S' w w') (hS' : ∀ i ∈ g :: S, i ∉ S') : TriP w' g S L := by
  obtain ⟨S1, S2, vr, tb, tn, T, sb, sn, D, vn, N, PT, hS, h⟩ := h
  exact ⟨S1, S2, vr, tb, tn, T, sb, sn, D, vn, N, PT, hS, h.but k (hS' g (by simp)) (fun i hi => hS' i (List.mem_cons_of_mem _ ((hS i).2 (.inl hi)))) (fun i hi => hS' i (List.mem_cons_of_mem _ ((hS i).2 (.inr hi))))⟩
theorem TriI.below {w w' : World} {g : Nat} {S1 S2 : List Nat} {L : List Ru} {vr : Value} {tb tn : Nat} {T : DataW Unit} {sb sn : Nat} {D : DataW Unit} {vn : Value} {N : List (Sv × Sv)} {PT : List (List (List UInt8))}
    (h : TriI w g S1 S2 L vr tb tn T sb sn D vn N PT) (hb : Below w.heap.size w w') : TriI w' g S1 S2 L vr tb tn T sb sn D vn N PT := h.but (But.of_below hb []) (fun h => by cases h) (fun _ _ h => by cases h) (fun _ _ h => by cases h)
/-- what a right rule is -/
theorem right_ok {r : Ru} (h : rightS r = 0) : OkU r ∧ (cutP r.pa).1 ≠ 3 ∧ r.pa.length ≤ 255 := by
  unfold rightS at h
  split at h
  · cases h
  · rename_i h1
    split at h
    · cases h
    · rename_i h2
      split at h
      · cases h
      · rename_i h3
        split at h
        · cases h
        · rename_i h4
          have hl : r.pa.length ≤ 255 := by
            rcases cut_cases r.pa with ⟨e1, c⟩ | ⟨n, e1, _, n1, _, c⟩ | ⟨e1, n1, c⟩ | c
            · rw [e1]; simp
            · have := (Nm.normal_len n1).2
              rw [e1]
              simp only [List.length_cons]
              omega
            · have := (Nm.normal_len n1).2
              omega
            · exact absurd (by rw [c]) h2
          exact ⟨⟨by omega, by omega, by omega, by omega, by omega, by omega⟩, h2, hl⟩
theorem ok_bare {r : Ru} (h : OkU r) : OkU { r with al := false } := ⟨h.p0, h.p1, h.o0, h.o1, h.pa, h.ap⟩
theorem twin_bare {r x : Ru} : twinB r x = true ↔ { x with al := false } = { r with al := false } := by
  unfold twinB
  obtain ⟨a1, a2, a3, a4, a5⟩ := r
  obtain ⟨b1, b2, b3, b4, b5⟩ := x
  simp only [Bool.and_eq_true, decide_eq_true_eq, Ru.mk.injEq, true_and]
  constructor
  · rintro ⟨⟨⟨h1, h2⟩, h3⟩, h4⟩
    exact ⟨h1.symm, h2.symm, h3.symm, h4.symm⟩
  · rintro ⟨h1, h2, h3, h4⟩
    exact ⟨⟨⟨h1.symm, h2.symm⟩, h3.symm⟩, h4.symm⟩
theorem any_bare {L : List Ru} {r : Ru} : L.any (twinB r) = true ↔ ∃ x ∈ L, { x with al := false } = { r with al := false } := by
  rw [List.any_eq_true]
  constructor
  · rintro ⟨x, h1, h2⟩
    exact ⟨x, h1, twin_bare.1 h2⟩
  · rintro ⟨x, h1, h2⟩
    exact ⟨x, h1, twin_bare.2 h2⟩
/-- all blocks that are new -/
def newB (w w' : World) : List Nat := List.range' w.heap.size (w'.heap.size - w.heap.size)
theorem newB_mem {w w' : World} {i : Nat} (h : w.heap.size ≤ w'.heap.size) : i ∈ newB w w' ↔ w.heap.size ≤ i ∧ i < w'.heap.size := by
  unfold newB
  rw [List.mem_range'_1]
  omega

/-- what New lays: two maps, a row of one node, the trie -/
theorem new_laid (w : World) : ∃ w4, ((((w.alloc (.map #[] 0)).alloc (.map #[] 0)).alloc (.cells #[.slice none 0 0, .slice none 0 0] 128)).alloc (.cells (trC4 (.slice none 0 0) w.heap.size (w.heap.size + 1) (.slice (some ⟨w.heap.size + 2, 0, none⟩) 1 1)) 73)) = w4 ∧
    TriP w4 (w.heap.size + 3) [w.heap.size, w.heap.size + 1, w.heap.size + 2] [] ∧ Below w.heap.size w w4 := by
  have l1 : Below w.heap.size w (w.alloc (.map #[] 0)) := (Below.refl _ _).alloc (Nat.le_refl _) _
  have m1 : (w.alloc (.map #[] 0)).ownsMap Tryz.prog 23 (unitElem (H := Unit)) w.heap.size 0 (.map []) := World.ownsMap_made w _ _ _
  obtain ⟨w1, hw1⟩ : ∃ w1, w.alloc (.map #[] 0) = w1 := ⟨_, rfl⟩
  have s1 : w1.heap.size = w.heap.size + 1 := by rw [← hw1, alloc_size]
  rw [hw1] at m1 l1 ⊢
  have m2 : (w1.alloc (.map #[] 0)).ownsMap Tryz.prog 133 (plainElem (H := Unit) Tryz.prog 3) w1.heap.size 0 (.map []) := World.ownsMap_made w1 _ _ _
  have m1 := m1.alloc (.map #[] 0)
  have l2 := l1.alloc l1.size (.map #[] 0)
  obtain ⟨w2, hw2⟩ : ∃ w2, w1.alloc (.map #[] 0) = w2 := ⟨_, rfl⟩
  have s2 : w2.heap.size = w.heap.size + 2 := by rw [← hw2, alloc_size, s1]
  rw [hw2] at m1 m2 l2 ⊢
  have b3 := Blk.new w2 128 #[.slice none 0 0, .slice none 0 0]
  have m1 := m1.alloc (.cells #[.slice none 0 0, .slice none 0 0] 128)
  have m2 := m2.alloc (.cells #[.slice none 0 0, .slice none 0 0] 128)
  have l3 := l2.alloc l2.size (.cells #[.slice none 0 0, .slice none 0 0] 128)
  obtain ⟨w3, hw3⟩ : ∃ w3, w2.alloc (.cells #[.slice none 0 0, .slice none 0 0] 128) = w3 := ⟨_, rfl⟩
  have s3 : w3.heap.size = w.heap.size + 3 := by rw [← hw3, alloc_size, s2]
  rw [hw3] at m1 m2 b3 l3 ⊢
  obtain ⟨C, hC⟩ : ∃ C, trC4 (.slice none 0 0) w.heap.size (w.heap.size + 1) (.slice (some ⟨w.heap.size + 2, 0, none⟩) 1 1) = C := ⟨_, rfl⟩
  rw [hC]
  have b4 := Blk.new w3 73 C
  have b3 := b3.alloc (.cells C 73)
  have m1 := m1.alloc (.cells C 73)
  have m2 := m2.alloc (.cells C 73)
  have l4 := l3.alloc l3.size (.cells C 73)
  have s4 : (w3.alloc (.cells C 73)).heap.size = w.heap.size + 4 := by rw [alloc_size, s3]
  rw [s1] at m2
  rw [s2] at b3
  rw [s3, ← hC] at b4
  refine ⟨_, rfl, ⟨[w.heap.size], [w.heap.size + 1, w.heap.size + 2], .slice none 0 0, w.heap.size, 0, .map [], w.heap.size + 1, 0, .map [], .slice (some ⟨w.heap.size + 2, 0, none⟩) 1 1, [(Sv.zero, Sv.zero)], [[]], fun i => by simp, ?_⟩, l4⟩
  refine ⟨by rw [← hC]; exact b4, OwnU.nil_ _ _, m1, fun q _ => ?_, ?_, fun b e => (by cases e), by simp, fun i hi => ?_, by simp, by simp, fun i hi => ?_, fun i hi => ?_, fun r h => (by cases h), by simp, by simp, by simp, by simp⟩
  · simp [Maps.has]
  · refine ⟨m2, Steps.start, ⟨rfl, .inr ⟨w.heap.size + 2, 1, #[.slice none 0 0, .slice none 0 0], rfl, Nat.zero_le _, b3, Nat.le_refl _, by unfold maxLen; omega, rfl, rfl⟩⟩, rfl, fun k s q h1 h2 => ?_, fun k s q h1 h2 => ?_, fun k m s t h1 h2 b => ?_, fun r h => (by cases h), by simp, fun b e => ?_, fun s hs b hb => ?_⟩
    · match k, h1, h2 with
      | 0, h1, h2 =>
        injection h1 with h1
        subst h1
        exact OwnE.nil _ _ _
      | k + 1, h1, _ => simp at h1
    · match k, h1, h2 with
      | 0, h1, h2 =>
        injection h1 with h1
        subst h1
        exact OwnE.nil _ _ _
      | k + 1, h1, _ => simp at h1
    · have hs : s = (Sv.zero, Sv.zero) := by simpa using List.mem_of_getElem? h1
      rw [hs]
      exact ⟨fun e => (by cases e), fun _ e => (by cases e), fun _ e => (by cases e)⟩
    · have e' : w.heap.size + 2 = b := Option.some.inj e
      rw [← e']; simp
    · have hs' : s = (Sv.zero, Sv.zero) := by simpa using hs
      rw [hs'] at hb
      rcases hb with hb | hb <;> cases hb
  · simp at hi ⊢; omega
  · rw [s4]; simp at hi; omega
  · rw [s4]; simp at hi; omega
set_option linter.unusedSimpArgs false in
set_option maxRecDepth 100000 in
set_option maxHeartbeats 4000000 in
theorem tnew_any (w : World) : Calls Tryz.prog 20 #[] w fun e w' => ∃ g S, e = .returned (.pointer (some ⟨g, 0, none⟩)) ∧ TriP w' g S [] ∧ (∀ i ∈ g :: S, w.heap.size ≤ i) ∧ Below w.heap.size w w' := by
  have hmm := @run_makeMap Tryz.prog
  obtain ⟨i0, hi, hz0, hz1, hz2⟩ := info_parts fineN.info
  have hmk := fun u => run_make (P := Tryz.prog) u 71 128 i0 (.agg #[.slice none 0 0, .slice none 0 0]) Tryz.underlying71 hi hz0 .i64 .i64 1 1 (by omega) (Int.le_refl _) (by rw [hz2]; decide) (by decide)
  rw [hz1, show madeCells (Value.agg #[.slice none 0 0, .slice none 0 0]).cells (Int.toNat 1 * elN.n) = #[.slice none 0 0, .slice none 0 0] from by kernel_rfl] at hmk
  obtain ⟨w4, hw4, ht, hl⟩ := new_laid w
  have HW := Lib.hid hw4
  have HT := Lib.hid ht
  have HL := Lib.hid hl
  clear hw4 ht hl hi hz0 hz1 hz2
  go_enter Tryz.func20, Tryz.ntmps20
  go_wp2_with fail
  go_ret
  have ht := HT.out
  have hl := HL.out
  rw [← HW.out] at ht hl
  refine ⟨w.heap.size + 3, [w.heap.size, w.heap.size + 1, w.heap.size + 2], rfl, ht, fun i hi => ?_, hl⟩
  simp at hi
  omega
end Go.Proofs.YtlpondbcnfaggaaGreatDoor.Tr
