/-
  Fields in a row of the call's own: append in a list of operations, what stands of them behind; fields of which none has a name, and which host a request with them is for. Plain lemmas, no condition.
-/
import Derived.Test.YtgbhnjkigjecmaaGreatDoorQ13
import Derived.Test.YtgbhnjkigjecmaaGreatDoorQ25
namespace Go.Proofs.YtgbhnjkigjecmaaGreatDoor.Fd
open Go.RowKit Go.Proofs.YtgbhnjkigjecmaaGreatDoor.Wd Go.Proofs.YtgbhnjkigjecmaaGreatDoor.Asc Go.Proofs.YtgbhnjkigjecmaaGreatDoor.Tx Go.Proofs.YtgbhnjkigjecmaaGreatDoor.St

theorem OwnF.below {w w' : World} {B B' : Nat} {v : Value} {l : List Fld} (h : OwnF w B v l) (hb : Below B' w w') (hB : w.heap.size ≤ B') : OwnF w' B v l := by
  obtain ⟨hl, ⟨rfl, h0⟩ | ⟨g, cap, cur, rfl, hg, hh, r⟩⟩ := h
  · exact ⟨hl, .inl ⟨rfl, h0⟩⟩
  · refine ⟨hl, .inr ⟨g, cap, cur, rfl, hg, ?_, r⟩⟩
    have hlt : g < w.heap.size := Blk.lt (t := 45) (cs := cur) hh
    rw [hb.block g (by omega)]
    exact hh
theorem wpList_appF {ops : Array Oper} {rest : List Oper} {o : Oper} {a : Act} {w : World} {Q : Exit → Act → World → Prop} (hgd : o.guard = none) (s x : Operand)
    (ho : o.op = .call { callee := .builtin .append, args := #[s, x], argTypes := #[40, 40] })
    (B : Nat) (v : Value) (l : List Fld) (hs : a.eval s = v) (hown : OwnF w B v l) (A : Option Addr) (n c : Nat) (m : List Fld) (hx : a.eval x = .slice A n c) (hn : n = m.length) (hsrc : SrcF w A m)
    (hlen : l.length + m.length ≤ 100000) (hB : B ≤ w.heap.size)
    (h : ∀ v' w', Hid (OwnF w' B v' (l ++ m)) → Hid (w.grownBy w' v.ownBlock) → wpList Tryz.prog ops Q rest (a.put o.dst v') w') : wpList Tryz.prog ops Q (o :: rest) a w := by
  subst hn
  obtain ⟨v', w', hrun, h2, h3⟩ := run_appF hown (c := c) hsrc hlen hB o.type
  refine wpList_plain hgd fun K hK => ?_
  unfold Oper.wp execOp
  simp only [ho, resolve, invoke, builtin, Sem.run_bind, Sem.run_pure, Result.andThen_ok, List.map_toArray, List.map_cons, List.map_nil, hs, hx, hrun]
  exact hK _ _ (h v' w' (Lib.hid h2) (Lib.hid h3))
/-- none of that name is found -/
theorem find_out {nm : List UInt8} {l : List Fld} (h : ∀ f ∈ l, f.name ≠ nm) : findS nm l = ([], 0) := by
  have e : ofName nm l = [] := by
    unfold ofName
    rw [List.filter_eq_nil_iff]
    intro f hf
    simpa using h f hf
  rw [findS, e]
  rfl
end Go.Proofs.YtgbhnjkigjecmaaGreatDoor.Fd
namespace Go.Proofs.YtgbhnjkigjecmaaGreatDoor.Au
open Go.RowKit Go.Proofs.YtgbhnjkigjecmaaGreatDoor.Wd Go.Proofs.YtgbhnjkigjecmaaGreatDoor.Asc Go.Proofs.YtgbhnjkigjecmaaGreatDoor.Tx Go.Proofs.YtgbhnjkigjecmaaGreatDoor.St

theorem end3 (c : UInt8) (h1 : c ≠ 47) (h2 : c ≠ 63) (h3 : c ≠ 35) : Rl.endB c = false := by
  unfold Rl.endB Rl.ends
  simp [h1, h2, h3]
def urlS (a : List UInt8) : List UInt8 := Rl.http ++ a ++ [47]
abbrev getS : List UInt8 := [71, 69, 84]
theorem url_auth {a : List UInt8} (h : ∀ c ∈ a, Rl.endB c = false) : Rl.authS (urlS a) = some a := by
  have h7 : Rl.http.length = 7 := by decide
  rw [Rl.auth_is (by rw [urlS, List.length_append, List.length_append, h7]; omega)]
  · have e : (urlS a).drop 7 = a ++ [47] := by
      rw [urlS, List.append_assoc]
      exact List.drop_left' h7
    rw [e]
    congr 1
    have : ∀ (x : List UInt8), (∀ c ∈ x, Rl.endB c = false) → (x ++ [47]).takeWhile (fun c => !Rl.endB c) = x := by
      intro x
      induction x with
      | nil => intro _; decide
      | cons y r ih =>
        intro hx
        rw [List.cons_append, List.takeWhile_cons, if_pos (by rw [hx y (by simp)]; rfl), ih (fun c hc => hx c (List.mem_cons_of_mem _ hc))]
    exact this a h
  · have e : (urlS a).take 7 = Rl.http := by
      rw [urlS, List.append_assoc]
      exact List.take_left' h7
    rw [e]
    decide
theorem url_form {a : List UInt8} (h : ∀ c ∈ a, Rl.endB c = false) : Rl.formS ⟨getS, urlS a, 0⟩ = 2 := by
  have hu : urlS a = 104 :: (urlS a).drop 1 := rfl
  unfold Rl.formS
  rw [if_neg (by dsimp only; decide), if_neg (by dsimp only; rw [hu]; simp), if_neg (by dsimp only; rw [hu]; simp)]
  dsimp only
  rw [url_auth h]
  rfl
theorem of_url {a : List UInt8} (h : ∀ c ∈ a, Rl.endB c = false) {l : List Fd.Fld} {t : List UInt8} (hl : Fd.findS hostN l = (t, 1)) : ofS ⟨getS, urlS a, 0⟩ l = parseS a := by
  unfold ofS
  rw [url_form h, hl]
  dsimp only
  rw [if_neg (by decide), if_neg (by decide), if_neg (by decide), if_pos rfl, url_auth h]
  rfl
theorem of_root {l : List Fd.Fld} {t : List UInt8} (hl : Fd.findS hostN l = (t, 1)) : ofS ⟨getS, [47], 0⟩ l = parseS t := by
  unfold ofS
  rw [hl, show Rl.formS ⟨getS, [47], 0⟩ = 1 by decide]
  rfl
theorem of_two {l : List Fd.Fld} {t : List UInt8} (hl : Fd.findS hostN l = (t, 2)) : ofS ⟨getS, [47], 0⟩ l = ([], 0, 7) := by
  unfold ofS
  rw [hl, show Rl.formS ⟨getS, [47], 0⟩ = 1 by decide]
  rfl
theorem find_one {l : List Fd.Fld} (h : ∀ f ∈ l, f.name ≠ hostN) (t : List UInt8) : Fd.findS hostN (l ++ [⟨hostN, t⟩]) = (t, 1) :=
  Fd.find_first (f := ⟨hostN, t⟩) rfl (by rw [Fd.find_out h])
theorem find_two {l : List Fd.Fld} (h : ∀ f ∈ l, f.name ≠ hostN) (t u : List UInt8) : Fd.findS hostN (l ++ [⟨hostN, t⟩] ++ [⟨hostN, u⟩]) = (t, 2) := by
  rw [Fd.find_more (f := ⟨hostN, u⟩) rfl (by rw [find_one h]; simp), find_one h]
end Go.Proofs.YtgbhnjkigjecmaaGreatDoor.Au
