/-
  How long what is printed of a right policy is. Plain facts, no condition but addresses of sixteen bytes.
-/
import Derived.Test.YtlpondbcnfaggaaGreatDoorR11
import Derived.Lib.ItoaLen
namespace Go.Proofs.YtlpondbcnfaggaaGreatDoor.Po
open Go Go.Proofs.YtlpondbcnfaggaaGreatDoor.Asc Go.Proofs.YtlpondbcnfaggaaGreatDoor.Ad Go.Proofs.YtlpondbcnfaggaaGreatDoor.Nm Go.Proofs.YtlpondbcnfaggaaGreatDoor.Tr

/-- how long words are, with a blank each -/
def lenW (ws : List (List UInt8)) : Nat := (ws.map fun w => w.length + 1).sum
theorem lenW_nil : lenW [] = 0 := rfl
theorem lenW_cons (w : List UInt8) (ws : List (List UInt8)) : lenW (w :: ws) = w.length + 1 + lenW ws := by simp [lenW]
theorem lenW_app (a b : List (List UInt8)) : lenW (a ++ b) = lenW a + lenW b := by simp [lenW]
theorem lineW_len : ∀ ws : List (List UInt8), (lineW ws).length ≤ lenW ws
  | [] => Nat.le_refl _
  | [w] => by rw [lenW_cons]; show w.length ≤ _; omega
  | w :: v :: l => by
    have ih := lineW_len (v :: l)
    rw [lenW_cons]
    show (w ++ 32 :: lineW (v :: l)).length ≤ _
    rw [List.length_append, List.length_cons]
    omega
theorem itoa_len {n : Int} (h0 : -9223372036854775808 ≤ n) (h1 : n ≤ 9223372036854775807) : (Lib.itoa n).length ≤ 21 := Lib.itoa_length_le n h0 h1
theorem cprint_lenP {c : Ad.C} (hc : c.a.length = 16) (hr : Ad.rightS c = true) : (cprintS (ctext c.a) c).length ≤ 100 := by
  have h1 := ctext_len c.a hc
  have h2 : (Lib.itoa (bitsI c.a c.n)).length ≤ 21 := by
    have h3 : c = ofS c.a c.n := by unfold Ad.rightS at hr; rwa [beq_iff_eq] at hr
    have h4 : c.n = ((bitN c.n : Nat) : Int) := congrArg Ad.C.n h3
    have := bitN_le c.n
    exact itoa_len (by unfold bitsI; split <;> omega) (by unfold bitsI; split <;> omega)
  unfold cprintS
  simp
  omega
theorem right_lens {r : Ru} (h : Tr.rightS r = 0) : r.pa.length ≤ 255 ∧ r.ap.length ≤ 255 := by
  obtain ⟨_, h2, _⟩ := right_parts h
  constructor
  · rcases cut_cases r.pa with ⟨e1, c⟩ | ⟨n, e1, _, n1, _, c⟩ | ⟨e1, n1, c⟩ | c
    · rw [e1]; simp
    · have := (Nm.normal_len n1).2
      rw [e1]
      simp only [List.length_cons]
      omega
    · have := (Nm.normal_len n1).2
      omega
    · exact absurd (by rw [c]) h2
  · unfold Tr.rightS at h
    split at h
    · cases h
    · split at h
      · cases h
      · split at h
        · cases h
        · rename_i h4
          omega
theorem ruleW_len {r : Ru} (h : Tr.rightS r = 0) : lenW (ruleW r) ≤ 700 := by
  obtain ⟨h1, _, h3, _⟩ := right_parts h
  obtain ⟨h4, h5⟩ := right_lens h
  have p1 := itoa_len (n := r.pr) (by omega) (by omega)
  have p2 := itoa_len (n := r.po) (by omega) (by omega)
  have hv : (verb r.al).length ≤ 5 := by cases r.al <;> decide
  have ha : lenW (if r.po ≠ 0 then [kPort, Lib.itoa r.po] else []) ≤ 27 := by
    split
    · rw [lenW_cons, lenW_cons, lenW_nil]
      have : kPort.length = 4 := rfl
      omega
    · exact Nat.zero_le _
  have hb : lenW (if r.ap ≠ [] then [kAlpn, r.ap] else []) ≤ 261 := by
    split
    · rw [lenW_cons, lenW_cons, lenW_nil]
      have : kAlpn.length = 4 := rfl
      omega
    · exact Nat.zero_le _
  unfold ruleW
  rw [lenW_cons, lenW_cons, lenW_cons, lenW_app]
  omega
theorem pinW_len {L : List Pn} {x : Pn} (h : pinE L x = 0) (hc : x.ci.a.length = 16) : lenW (pinW x) ≤ 700 := by
  obtain ⟨h1, h2, h3, h4⟩ := pin_parts h
  have p1 := itoa_len (n := x.un) (by omega) (by omega)
  have p2 := cprint_lenP hc h2
  have p3 : x.nm.length ≤ 253 := by
    unfold nameB at h1
    have h1 : normalS x.nm = (x.nm, 0) := by simpa using h1
    exact (Nm.normal_len h1).2
  have hb : lenW (if x.un ≠ 0 then [kUntil, Lib.itoa x.un] else []) ≤ 28 := by
    split
    · rw [lenW_cons, lenW_cons, lenW_nil]
      have : kUntil.length = 5 := rfl
      omega
    · exact Nat.zero_le _
  have : kPin.length = 3 := rfl
  unfold pinW
  rw [lenW_cons, lenW_cons, lenW_cons]
  omega
theorem flat_len9 : ∀ ls : List (List (List UInt8)), (∀ ws ∈ ls, lenW ws ≤ 700) → (ls.flatMap fun ws => lineW ws ++ [10]).length ≤ 701 * ls.length
  | [], _ => Nat.le_refl _
  | ws :: ls, h => by
    have ih := flat_len9 ls (fun x hx => h x (List.mem_cons_of_mem _ hx))
    have h1 := h ws (by simp)
    have h2 := lineW_len ws
    rw [List.flatMap_cons, List.length_append, List.length_append, List.length_cons]
    simp only [List.length_cons, List.length_nil]
    omega
theorem print_len {p : Pol} (hc : ∀ x ∈ p.pn, x.ci.a.length = 16) (h : rightP p = 0) (hr : p.ru.length ≤ 200) : (printP p).length ≤ 300000 := by
  obtain ⟨h1, h2, h3⟩ := rightP_parts.1 h
  have h4 := flat_len9 (linesP p) (fun ws hw => by
    unfold linesP at hw
    rcases List.mem_cons.1 hw with rfl | hw
    · cases p.al <;> decide
    · rcases List.mem_append.1 hw with hw | hw
      · obtain ⟨r, hm, rfl⟩ := List.mem_map.1 hw
        exact ruleW_len (rules_all h1 r hm)
      · obtain ⟨x, hm, rfl⟩ := List.mem_map.1 hw
        obtain ⟨L, hx⟩ := pins_all h3 x hm
        exact pinW_len hx (hc x hm))
  have h5 : (linesP p).length ≤ 401 := by
    unfold linesP
    rw [List.length_cons, List.length_append, List.length_map, List.length_map]
    omega
  unfold printP
  omega
end Go.Proofs.YtlpondbcnfaggaaGreatDoor.Po
