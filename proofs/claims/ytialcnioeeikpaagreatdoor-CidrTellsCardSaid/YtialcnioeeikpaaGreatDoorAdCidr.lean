/-
  Contracts of package cidr's Of, Right and Has over this seat's translation.
-/
import Derived.Test.YtialcnioeeikpaaGreatDoorAdFns
import Derived.BigQuiet
import Derived.DeepKeys
import Derived.ChangeKeysEq
import Derived.Deep.QuietTactic
namespace Go.Proofs.YtialcnioeeikpaaGreatDoor.Ad
open Go.RowKit Go.Proofs.YtialcnioeeikpaaGreatDoor.Wd

theorem info17 : (Tryz.prog.info? 25).map (·.size) = some 17 := by kernel_rfl
theorem und17 : Tryz.prog.underlying 25 = some (.struct (Tryz.prog.fieldsOf 25)) := by kernel_rfl
theorem list16 {α : Type} {l : List α} (h : l.length = 16) : ∃ a0 a1 a2 a3 a4 a5 a6 a7 a8 a9 b0 b1 b2 b3 b4 b5 : α, l = [a0, a1, a2, a3, a4, a5, a6, a7, a8, a9, b0, b1, b2, b3, b4, b5] := by
  match l, h with
  | [a0, a1, a2, a3, a4, a5, a6, a7, a8, a9, b0, b1, b2, b3, b4, b5], _ => exact ⟨a0, a1, a2, a3, a4, a5, a6, a7, a8, a9, b0, b1, b2, b3, b4, b5, rfl⟩
theorem built17 (l : List UInt8) (hl : l.length = 16) (n : Int) : Tryz.prog.built 25 [(0, .agg (cA l)), (1, .int .i64 n)] = some (C.cells ⟨l, n⟩) := by
  obtain ⟨a0, a1, a2, a3, a4, a5, a6, a7, a8, a9, b0, b1, b2, b3, b4, b5, rfl⟩ := list16 hl
  kernel_rfl
theorem C_size (c : C) (h : c.a.length = 16) : c.cells.size = 17 := by simp [C.cells, cellsOf_length, h]
theorem C_one (c : C) : c.cells.all (·.oneCell') = true := all_oneCell_toArray (fun v hv => by
  rcases List.mem_append.1 hv with h | h
  · exact cellsOf_one _ v h
  · simp at h; subst h; rfl)
/-- a Cidr is built -/
theorem go_bd17 {ops : Array Oper} {rest : List Oper} {o : Oper} {a : Act} {w : World} {Q : Exit → Act → World → Prop} {x y : Operand} {l : List UInt8} {n : Int} (hl : l.length = 16) (hg : o.guard = none) (ho : o.op = .build 25 #[(0, x), (1, y)])
    (hx : a.eval x = .agg (cA l)) (hy : a.eval y = .int .i64 n) (h : wpList Tryz.prog ops Q rest (a.put o.dst (.agg (C.cells ⟨l, n⟩))) w) : wpList Tryz.prog ops Q (o :: rest) a w := by
  have e : Tryz.prog.built 25 ((#[(0, x), (1, y)] : Array (Nat × Operand)).map fun (i, x) => (i, a.eval x)).toList = some (C.cells ⟨l, n⟩) := by
    simp only [List.map_toArray, List.map_cons, List.map_nil, hx, hy]
    exact built17 l hl n
  refine wpList_build hg _ _ ho (by rw [e]; rfl) ?_
  rw [e]
  exact h

theorem C_zero : C.cells ⟨List.replicate 16 0, 0⟩ = #[Value.int .u8 0, .int .u8 0, .int .u8 0, .int .u8 0, .int .u8 0, .int .u8 0, .int .u8 0, .int .u8 0, .int .u8 0, .int .u8 0, .int .u8 0, .int .u8 0, .int .u8 0, .int .u8 0, .int .u8 0, .int .u8 0, .int .i64 0] := rfl
theorem ofS_len (a : List UInt8) (n : Int) : (ofS a n).a.length = a.length := maskS_length _ _

theorem of_any (a : List UInt8) (ha : a.length = 16) (n : Int) (w : World) :
    Calls Tryz.prog 7 #[.agg (cA a), .int .i64 n] w fun e w' => e = .returned (.agg (ofS a n).cells) ∧ Below w.heap.size w w' := by
  have HI := Lib.hid (bitN_is n)
  have HS := Lib.hid (bitN_self n)
  have hz := ofS_len a n
  rw [ha] at hz
  go_enter Tryz.func7, Tryz.ntmps7
  go_wp2_with fail
  refine (within_any _ _ _ _).mono ?_
  rintro e w1 ⟨rfl, hw⟩
  rw [HI.out]
  have b0 : Blk w1 w.heap.size 23 (cA a) := by rw [hw]; exact (Blk.new _ _ _).alloc _
  have b1 : Blk w1 (w.heap.size + 1) 25 (C.cells ⟨List.replicate 16 0, 0⟩) := by rw [hw]; exact blk_at _ _ _ _ _ (by rw [alloc_size]) rfl
  have hbel : Below w.heap.size w w1 := by rw [hw]; exact ((Below.refl _ _).alloc (Nat.le_refl _) _).alloc (by simp) _
  clear hw
  go_wp2_with (refine go_ld 23 b0 und16 rfl info16 (by rw [cA_size, ha]) rfl rfl rfl ?_)
  refine (mask_any a ha _ _).mono ?_
  rintro e w2 ⟨rfl, hb2⟩
  rw [HS.out]
  have b1' := b1.below hb2 b1.lt
  have hbel2 := hbel.trans (hb2.mono hbel.size)
  clear b0 b1 hbel hb2
  have hbuilt : C.cells ⟨maskS a (bitN n), (bitN n : Int)⟩ = (ofS a n).cells := rfl
  go_wp2_with (first
    | (refine go_bd17 (by exact hz) rfl rfl rfl rfl ?_; rw [hbuilt])
    | (refine go_st 25 b1' info17 (C_size _ rfl) (C_size _ hz) (C_one _) rfl rfl rfl rfl ?_))
  exact ret_row Tryz.results7 b1' und17 rfl info17 (C_size _ hz) rfl ⟨rfl, setRow_below hbel2 b1' (by omega) _⟩ rfl

theorem plain8 : Tryz.prog.plainKey 5 = true := by kernel_rfl
theorem cells8 : Tryz.prog.cellsOf 5 = 1 := by kernel_rfl
theorem items8 (d : Nat) (c e : List UInt8) (w : World) : ∀ is : List Nat, (∀ i ∈ is, i < c.length ∧ i < e.length) → (Op.eqItems (d + 1) 5 1 (cA c) (cA e) is).run Tryz.prog w = .ok (is.all fun i => c[i]? == e[i]?) w
  | [], _ => rfl
  | i :: is, h => by
    obtain ⟨h1, h2⟩ := h i (by simp)
    have x1 : (cA c)[i]? = some (b8 c[i]) := by simp [cellsOf, h1]
    have x2 : (cA e)[i]? = some (b8 e[i]) := by simp [cellsOf, h2]
    have hq : (Op.equalIn (d + 1) 5 (b8 c[i]) (b8 e[i])).run Tryz.prog w = .ok (c[i] == e[i]) w := by
      have hb : (c[i] == e[i]) = ((c[i].toNat : Int) == (e[i].toNat : Int)) := by
        by_cases hce : c[i] = e[i]
        · rw [hce]; simp
        · have : ¬ c[i].toNat = e[i].toNat := fun k => hce (UInt8.toNat.inj k)
          have hn : ¬ (c[i].toNat : Int) = (e[i].toNat : Int) := by omega
          rw [beq_eq_false_iff_ne.2 hce, beq_eq_false_iff_ne.2 hn]
      rw [hb]
      exact run_equalIn_int w d _ .u8 .u8 _ _ Tryz.underlying5
    simp only [Op.eqItems, Sem.run_bind, Nat.mul_one, run_part_plain w plain8 x1, run_part_plain w plain8 x2, Result.andThen_ok, hq]
    rw [List.all_cons, List.getElem?_eq_getElem h1, List.getElem?_eq_getElem h2]
    cases hce : c[i] == e[i]
    · have : (some c[i] == some e[i]) = false := by simpa using hce
      rw [this]; simp
    · have : (some c[i] == some e[i]) = true := by simpa using hce
      rw [this]
      simpa using items8 d c e w is (fun j hj => h j (by simp [hj]))
theorem all_range {c e : List UInt8} {n : Nat} (hc : c.length = n) (he : e.length = n) : ((List.range n).all fun i => c[i]? == e[i]?) = (c == e) := by
  rw [Bool.eq_iff_iff, List.all_eq_true, beq_iff_eq]
  constructor
  · intro h
    apply List.ext_getElem?
    intro i
    by_cases hi : i < n
    · exact beq_iff_eq.1 (h i (by simpa using hi))
    · rw [List.getElem?_eq_none (by omega), List.getElem?_eq_none (by omega)]
  · rintro rfl i _
    simp
theorem info8 : ∃ i, Tryz.prog.info? 5 = some i := by
  cases h : Tryz.prog.info? 5 with
  | none => have : (Tryz.prog.info? 5).isSome = true := by kernel_rfl
            rw [h] at this; cases this
  | some i => exact ⟨i, rfl⟩
theorem eqIn16 (d : Nat) (c e : List UInt8) (hc : c.length = 16) (he : e.length = 16) (w : World) : (Op.equalIn (d + 2) 23 (.agg (cA c)) (.agg (cA e))).run Tryz.prog w = .ok (c == e) w := by
  obtain ⟨i8, hi8⟩ := info8
  rw [run_equalIn_array w (d + 1) (cA c) (cA e) und16 hi8, cells8, items8 d c e w _ (fun i hi => by simp at hi; omega), all_range hc he]
/-- '==' of two addresses -/
theorem eql16 (c e : List UInt8) (hc : c.length = 16) (he : e.length = 16) (w : World) : (binOp .eql 23 (.agg (cA c)) (.agg (cA e))).run Tryz.prog w = .ok (.bool (c == e)) w := by
  rw [run_eql_struct, eqIn16 9998 c e hc he w]; rfl
theorem fields17 : ∃ f g : Field, (Tryz.prog.fieldsOf 25).toList = [f, g] ∧ f.type = 23 ∧ f.offset = 0 ∧ f.name ≠ "_" ∧ g.type = 3 ∧ g.offset = 16 ∧ g.name ≠ "_" := by
  simp only [Program.fieldsOf, Tryz.underlying25]
  exact ⟨_, _, rfl, rfl, rfl, by decide, rfl, rfl, by decide⟩
theorem stood17 : Tryz.prog.stoodInHeld 25 = false := by kernel_rfl
theorem part_row {c : C} (hc : c.a.length = 16) (w : World) : (part 23 c.cells 0).run Tryz.prog w = .ok (.agg (cA c.a)) w := by
  have hagg : (isAgg 23).run Tryz.prog w = .ok true w := by
    unfold isAgg
    rw [Sem.run_bind, run_underlying und16 w]
    rfl
  cases hq : Tryz.prog.info? 23 with
  | none => have := info16; rw [hq] at this; cases this
  | some i =>
    have hs : i.size = 16 := by have := info16; rw [hq] at this; simpa using this
    simp [part, Sem.run_bind, hagg, sizeOf, typeInfo, hq, hs]
    apply Array.ext'
    simp [C.cells, cellsOf_length, hc]
theorem part_bits {c : C} (hc : c.a.length = 16) (w : World) : (part 3 c.cells 16).run Tryz.prog w = .ok (.int .i64 c.n) w :=
  run_part_plain w (by kernel_rfl) (by simp [C.cells, cellsOf_length, hc])
theorem C_beq (c d : C) : (c == d) = (c.a == d.a && c.n == d.n) := by
  rw [Bool.eq_iff_iff, Bool.and_eq_true, beq_iff_eq, beq_iff_eq, beq_iff_eq]
  constructor
  · rintro rfl; exact ⟨rfl, rfl⟩
  · intro ⟨h1, h2⟩; cases c; cases d; simp_all
theorem eqFields17 (k : Nat) (f g : Field) (f1 : f.type = 23) (f2 : f.offset = 0) (f3 : f.name ≠ "_") (g1 : g.type = 3) (g2 : g.offset = 16) (g3 : g.name ≠ "_") (c d : C) (hc : c.a.length = 16) (hd : d.a.length = 16) (w : World) : (Op.eqFields (k + 2) c.cells d.cells [f, g]).run Tryz.prog w = .ok (c.a == d.a && c.n == d.n) w := by
  have p1 : (part f.type c.cells f.offset).run Tryz.prog w = .ok (.agg (cA c.a)) w := by rw [f1, f2]; exact part_row hc w
  have p2 : (part f.type d.cells f.offset).run Tryz.prog w = .ok (.agg (cA d.a)) w := by rw [f1, f2]; exact part_row hd w
  have p3 : (Op.equalIn (k + 2) f.type (.agg (cA c.a)) (.agg (cA d.a))).run Tryz.prog w = .ok (c.a == d.a) w := by rw [f1]; exact eqIn16 k c.a d.a hc hd w
  have q1 : (part g.type c.cells g.offset).run Tryz.prog w = .ok (.int .i64 c.n) w := by rw [g1, g2]; exact part_bits hc w
  have q2 : (part g.type d.cells g.offset).run Tryz.prog w = .ok (.int .i64 d.n) w := by rw [g1, g2]; exact part_bits hd w
  have q3 : (Op.equalIn (k + 2) g.type (.int .i64 c.n) (.int .i64 d.n)).run Tryz.prog w = .ok (c.n == d.n) w := by rw [g1]; exact run_equalIn_int w (k + 1) _ .i64 .i64 c.n d.n Tryz.underlying3
  clear f1 f2 g1 g2
  generalize k + 2 = K at *
  generalize (Value.agg (cA c.a)) = A1 at *
  generalize (Value.agg (cA d.a)) = A2 at *
  generalize (c.a == d.a) = r1 at *
  generalize (c.n == d.n) = r2 at *
  simp only [Op.eqFields, f3, g3, ne_eq, not_false_eq_true, if_true, Sem.run_bind, p1, p2, p3, Result.andThen_ok]
  cases r1
  · simp
  · simp only [Bool.not_true, Bool.false_eq_true, if_false, Sem.run_bind, q1, q2, q3, Result.andThen_ok, Bool.true_and]
    cases r2 <;> simp
theorem eqIn17 (k : Nat) (c d : C) (hc : c.a.length = 16) (hd : d.a.length = 16) (w : World) : (Op.equalIn (k + 3) 25 (.agg c.cells) (.agg d.cells)).run Tryz.prog w = .ok (c == d) w := by
  obtain ⟨f, g, hfs, f1, f2, f3, g1, g2, g3⟩ := fields17
  rw [run_equalIn_struct w (k + 2) _ _ _ und17 stood17, hfs, C_beq]
  exact eqFields17 k f g f1 f2 f3 g1 g2 g3 c d hc hd w
theorem eqIn17n (n : Nat) (h : 3 ≤ n) (c d : C) (hc : c.a.length = 16) (hd : d.a.length = 16) (w : World) : (Op.equalIn n 25 (.agg c.cells) (.agg d.cells)).run Tryz.prog w = .ok (c == d) w := by
  obtain ⟨k, rfl⟩ : ∃ k, n = k + 3 := ⟨n - 3, by omega⟩
  exact eqIn17 k c d hc hd w
/-- '==' of two Cidrs -/
theorem eql17 (c d : C) (hc : c.a.length = 16) (hd : d.a.length = 16) (w : World) : (binOp .eql 25 (.agg c.cells) (.agg d.cells)).run Tryz.prog w = .ok (.bool (c == d)) w := by
  rw [run_eql_struct, eqIn17n _ (by omega) c d hc hd w, Result.andThen_ok]

/-- what a block that holds a Cidr yields -/
theorem ld17 {w : World} {g t : Nat} {c : C} (h : Blk w g t c.cells) (hc : c.a.length = 16) :
    (Instr.loadAt 25 (.pointer (some ⟨g, 0, none⟩))).run Tryz.prog w = .ok (.agg c.cells) w := by
  simp only [Instr.loadAt, Instr.sureAddr, Sem.run_bind, Sem.run_pure, Result.andThen_ok]
  exact run_loadVar_row w g t _ c.cells (0, 0) _ h und17 rfl (by rw [info17, C_size c hc])
theorem ld17a {w : World} {g t : Nat} {c : C} (h : Blk w g t c.cells) (hc : c.a.length = 16) :
    (Instr.loadAt 23 (.pointer (some ⟨g, 0, none⟩))).run Tryz.prog w = .ok (.agg (cA c.a)) w :=
  run_loadAt_mid w g 0 _ (cellsOf c.a) _ (fun j v hv => by
    rw [Nat.zero_add, h.cell]
    have hj : j < (cellsOf c.a).length := (List.getElem?_eq_some_iff.1 hv).1
    simp only [C.cells, List.getElem?_toArray]
    rw [List.getElem?_append_left hj, hv]) und16 rfl (by rw [info16, cellsOf_length, hc])
theorem ld17n {w : World} {g t : Nat} {c : C} (h : Blk w g t c.cells) (hc : c.a.length = 16) : w.cell? ⟨g, 16, none⟩ = some (.int .i64 c.n) := by
  rw [h.cell]; simp [C.cells, cellsOf_length, hc]

end Go.Proofs.YtialcnioeeikpaaGreatDoor.Ad
