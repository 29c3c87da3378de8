/-
  A number's digits, an address's text: what they are of. Plain lemmas, no condition (RfNumA's and AuPure's, for seats without the document's ascii and without package authority).
-/
import Derived.Test.YtlpondbcnfaggaaGreatDoorR08
import Derived.Test.YtlpondbcnfaggaaGreatDoorR03
import Derived.Test.YtlpondbcnfaggaaGreatDoorR10
namespace Go.Proofs.YtlpondbcnfaggaaGreatDoor.Po
open Go Go.Proofs.YtlpondbcnfaggaaGreatDoor.Asc

def dgt (d : Nat) : UInt8 := UInt8.ofNat (48 + d)
/-- a number's digits -/
def txtL (n : Nat) : List UInt8 := if n < 10 then [dgt n] else txtL (n / 10) ++ [dgt (n % 10)]
termination_by n
theorem txt_one (n : Nat) (h : n < 10) : txtL n = [dgt n] := by rw [txtL, if_pos h]
theorem txt_more (n : Nat) (h : ¬ n < 10) : txtL n = txtL (n / 10) ++ [dgt (n % 10)] := by rw [txtL, if_neg h]
theorem txt_pos (n : Nat) : 0 < (txtL n).length := by
  by_cases h : n < 10
  · rw [txt_one n h]; simp
  · rw [txt_more n h]; simp
theorem txt_short : ∀ (k n : Nat), n < 10 ^ (k + 1) → (txtL n).length ≤ k + 1
  | 0, n, h => by rw [txt_one n (by simpa using h)]; simp
  | k + 1, n, h => by
    by_cases h1 : n < 10
    · rw [txt_one n h1]; simp
    · rw [txt_more n h1, List.length_append]
      have := txt_short k (n / 10) (by rw [Nat.pow_succ] at h; omega)
      simp only [List.length_cons, List.length_nil]
      omega
theorem dgt_hex : ∀ d : Fin 10, hexI ((dgt d.1).toNat : Int) = some (d.1 : Int) := by decide
theorem dgt_is (d : Nat) (h : d < 10) : hexI ((dgt d).toNat : Int) = some (d : Int) := dgt_hex ⟨d, h⟩
theorem fold_add (B : Int) : ∀ (l : List UInt8) (c : UInt8) (a : Int), foldv B (l ++ [c]) a = (foldv B l a).bind fun v => foldv B [c] v
  | [], c, a => rfl
  | x :: l, c, a => by
    rw [List.cons_append, foldv, foldv]
    cases hexI (x.toNat : Int) with
    | none => rfl
    | some d =>
      simp only
      split
      · exact fold_add B l c _
      · rfl
theorem fold_dgt (v : Int) (d : Nat) (h : d < 10) : foldv 10 [dgt d] v = some (v * 10 + d) := by
  rw [foldv, dgt_is d h]; simp only; rw [if_pos (by omega), foldv]
theorem txt_fold (n : Nat) : foldv 10 (txtL n) 0 = some (n : Int) := by
  induction n using Nat.strongRecOn with
  | _ n ih =>
    by_cases h : n < 10
    · rw [txt_one n h, fold_dgt 0 n h]; congr 1; omega
    · rw [txt_more n h, fold_add, ih (n / 10) (by omega)]
      show foldv 10 [dgt (n % 10)] ((n / 10 : Nat) : Int) = _
      rw [fold_dgt _ _ (Nat.mod_lt _ (by omega))]
      congr 1
      omega
theorem dgt_ne : ∀ d : Fin 10, d.1 ≠ 0 → dgt d.1 ≠ 48 := by decide
theorem txt_first (n : Nat) (h0 : 1 ≤ n) : (txtL n)[0]? ≠ some 48 := by
  induction n using Nat.strongRecOn with
  | _ n ih =>
    by_cases h : n < 10
    · rw [txt_one n h]
      intro e
      simp only [List.getElem?_cons_zero, Option.some.injEq] at e
      exact dgt_ne ⟨n, h⟩ (by simp; omega) e
    · rw [txt_more n h, List.getElem?_append_left (txt_pos _)]
      exact ih (n / 10) (by omega) (by omega)
theorem txt_lead (n : Nat) : ¬ (1 < (txtL n).length ∧ (txtL n)[0]? = some 48) := by
  rintro ⟨h1, h2⟩
  by_cases h : n < 10
  · rw [txt_one n h] at h1; simp at h1
  · exact txt_first n (by omega) h2
theorem txt_dig (n : Nat) (h : n ≤ 999999999999999999) : digitsS 10 18 (txtL n) = some (n : Int) := by
  have h1 := txt_short 17 n (by have : (10 : Nat) ^ 18 = 1000000000000000000 := by decide
                                omega)
  have h2 := txt_pos n
  rw [digitsS, if_neg (by omega), txt_fold]
/-- a byte of an address's text -/
def txtB (c : UInt8) : Bool := [48, 49, 50, 51, 52, 53, 54, 55, 56, 57, 97, 98, 99, 100, 101, 102, 46, 58].contains c
theorem txtB_hex : ∀ d : Fin 16, txtB (Ad.hdg d.1) = true := by decide
theorem txtB_itoa : ∀ c : Fin 256, (Lib.itoa (c.1 : Int)).all txtB = true ∧ Lib.itoa (c.1 : Int) ≠ [] := by decide +kernel
theorem txtB_vis_all : ∀ c : Fin 256, txtB (UInt8.ofNat c.1) = true → visI (c.1 : Int) = true ∧ UInt8.ofNat c.1 ≠ 64 ∧ UInt8.ofNat c.1 ≠ 91 ∧ UInt8.ofNat c.1 ≠ 93 := by decide +kernel
theorem txtB_vis {c : UInt8} (h : txtB c = true) : visI (c.toNat : Int) = true ∧ c ≠ 64 ∧ c ≠ 91 ∧ c ≠ 93 := by
  have h1 := txtB_vis_all ⟨c.toNat, c.toNat_lt⟩
  simp only [UInt8.ofNat_toNat] at h1
  exact h1 h
theorem hexT_ok {n : Nat} (h : n < 65536) : (Ad.hexT n).all txtB = true := List.all_eq_true.2 fun c hc => by
  obtain ⟨d, rfl⟩ := Ad.hexT_mem h hc
  exact txtB_hex d
theorem join_ok : ∀ (row : List Nat), (∀ n ∈ row, n < 65536) → (Ad.joinS row).all txtB = true
  | [], _ => rfl
  | [n], h => hexT_ok (h n (by simp))
  | n :: m :: r, h => by
    rw [Ad.joinS, List.all_append, List.all_cons, hexT_ok (h n (by simp)), join_ok (m :: r) (fun x hx => h x (by simp at hx ⊢; exact .inr hx))]
    decide
theorem textG_ok (a : List UInt8) (ha : a.length = 16) : (Ad.textG a).all txtB = true := by
  have hp := (Ad.pairs_bytes 8 a ha).2.2
  unfold Ad.textG
  split
  · exact join_ok _ hp
  · rw [List.all_append, List.all_append, join_ok _ (fun n hn => hp n (List.mem_of_mem_take hn)), join_ok _ (fun n hn => hp n (List.mem_of_mem_drop hn))]
    decide
theorem itoa_ok (c : UInt8) : (Lib.itoa (c.toNat : Int)).all txtB = true ∧ Lib.itoa (c.toNat : Int) ≠ [] := txtB_itoa ⟨c.toNat, c.toNat_lt⟩
theorem text4_ok (a : List UInt8) (ha : a.length = 16) : (Ad.text4 a).all txtB = true ∧ Ad.text4 a ≠ [] := by
  obtain ⟨b0, b1, b2, b3, hb⟩ := Ad.four_parts (Ad.lastS_len ha)
  rw [Ad.text4_is hb]
  constructor
  · simp only [List.all_append, List.all_cons, (itoa_ok b0).1, (itoa_ok b1).1, (itoa_ok b2).1, (itoa_ok b3).1, Bool.true_and, Bool.and_true]
    decide
  · simp
/-- an address's text: its bytes, its colon; what is told of it -/
theorem ctext_ok (a : List UInt8) (ha : a.length = 16) : (Ad.ctext a).all txtB = true ∧ Ad.ctext a ≠ [] := by
  unfold Ad.ctext
  split
  · exact text4_ok a ha
  · refine ⟨textG_ok a ha, fun e => ?_⟩
    have := (Ad.parse_text a ha).2.2
    rw [e] at this
    revert this
    decide
theorem numS_txt (n : Nat) (h : n ≤ 999999999999999999) (most : Int) : numS (txtL n) most = if most < n then none else some (n : Int) := by
  split
  · rename_i h1; exact num_big _ _ _ (txt_dig n h) h1
  · rename_i h1; exact num_yes _ _ _ (txt_lead n) (txt_dig n h) h1
end Go.Proofs.YtlpondbcnfaggaaGreatDoor.Po

/-
  Policies as texts, in plain words: what is right is printed, and parsed as it was. No condition.
-/
namespace Go.Proofs.YtlpondbcnfaggaaGreatDoor.Po
open Go Go.Proofs.YtlpondbcnfaggaaGreatDoor.Asc Go.Proofs.YtlpondbcnfaggaaGreatDoor.Ad Go.Proofs.YtlpondbcnfaggaaGreatDoor.Nm Go.Proofs.YtlpondbcnfaggaaGreatDoor.Tr

/-! numbers -/
theorem dec_txt : ∀ n : Nat, Lib.decDigits n = txtL n := fun n => by
  induction n using Nat.strongRecOn with
  | ind n ih =>
    by_cases h : n < 10
    · rw [Lib.decDigits, dif_pos h, txt_one n h]; rfl
    · rw [Lib.decDigits, dif_neg h, txt_more n h, ih (n / 10) (by omega)]; rfl
theorem itoa_nat (n : Nat) : Lib.itoa (n : Int) = txtL n := by
  unfold Lib.itoa
  rw [if_neg (by omega), Int.toNat_natCast, dec_txt]
theorem num_itoa (n : Nat) (h : n ≤ 999999999999999999) (most : Int) (hm : (n : Int) ≤ most) : numS (Lib.itoa (n : Int)) most = some (n : Int) := by
  rw [itoa_nat, numS_txt n h, if_neg (by omega)]
theorem dgt_dig (d : Nat) (h : d < 10) : 48 ≤ (dgt d).toNat ∧ (dgt d).toNat ≤ 57 := by
  have : (dgt d).toNat = 48 + d := by
    unfold dgt
    rw [UInt8.toNat_ofNat']
    omega
  omega
theorem txt_dig9 : ∀ n : Nat, ∀ c ∈ txtL n, 48 ≤ c.toNat ∧ c.toNat ≤ 57 := fun n => by
  induction n using Nat.strongRecOn with
  | ind n ih =>
    intro c hc
    by_cases h : n < 10
    · rw [txt_one n h] at hc
      rw [List.mem_singleton.1 hc]
      exact dgt_dig n h
    · rw [txt_more n h] at hc
      rcases List.mem_append.1 hc with hc | hc
      · exact ih (n / 10) (by omega) c hc
      · rw [List.mem_singleton.1 hc]
        exact dgt_dig _ (by omega)
theorem txt_ne (n : Nat) : txtL n ≠ [] := by
  by_cases h : n < 10
  · rw [txt_one n h]; simp
  · rw [txt_more n h]; simp

/-! words that may stand in a line -/
def Word (w : List UInt8) : Prop := w ≠ [] ∧ ∀ c ∈ w, 33 ≤ c.toNat
theorem Word.blank {w : List UInt8} (h : Word w) : ∀ c ∈ w, blank c = false := fun c hc => by
  have := h.2 c hc
  unfold Po.blank
  rw [Bool.or_eq_false_iff, decide_eq_false_iff_not, decide_eq_false_iff_not]
  constructor
  · rintro rfl; exact absurd this (by decide)
  · rintro rfl; exact absurd this (by decide)
theorem Word.feed {w : List UInt8} (h : Word w) : (10 : UInt8) ∉ w := fun hm => absurd (h.2 10 hm) (by decide)
theorem word_nat (n : Nat) : Word (Lib.itoa (n : Int)) := by
  rw [itoa_nat]
  exact ⟨txt_ne n, fun c hc => by have := txt_dig9 n c hc; omega⟩
/-- words with one blank between two -/
def lineW : List (List UInt8) → List UInt8
  | [] => []
  | [w] => w
  | w :: v :: l => w ++ 32 :: lineW (v :: l)
theorem splitW_ne : ∀ l, splitW l ≠ []
  | [] => by simp [splitW]
  | x :: l => by unfold splitW; split <;> simp
theorem splitW_free : ∀ {l : List UInt8}, (∀ c ∈ l, blank c = false) → splitW l = [l]
  | [], _ => rfl
  | x :: l, h => by
    have ih := splitW_free (l := l) (fun c hc => h c (List.mem_cons_of_mem _ hc))
    rw [splitW, if_neg (by rw [h x (by simp)]; decide), ih]
    rfl
theorem splitW_app : ∀ {a : List UInt8} (b : List UInt8), (∀ c ∈ a, blank c = false) → splitW (a ++ 32 :: b) = a :: splitW b
  | [], b, _ => by show splitW (32 :: b) = _; rw [splitW, if_pos (show blank 32 = true from rfl)]
  | x :: a, b, h => by
    have ih := splitW_app (a := a) b (fun c hc => h c (List.mem_cons_of_mem _ hc))
    rw [List.cons_append, splitW, if_neg (by rw [h x (by simp)]; decide), ih]
    rfl
theorem splitW_line : ∀ {ws : List (List UInt8)}, ws ≠ [] → (∀ w ∈ ws, Word w) → splitW (lineW ws) = ws
  | [], h, _ => absurd rfl h
  | [w], _, h => splitW_free (h w (by simp)).blank
  | w :: v :: l, _, h => by
    show splitW (w ++ 32 :: lineW (v :: l)) = _
    rw [splitW_app _ (h w (by simp)).blank, splitW_line (by simp) (fun x hx => h x (List.mem_cons_of_mem _ hx))]
theorem words_line {ws : List (List UInt8)} (hne : ws ≠ []) (h : ∀ w ∈ ws, Word w) : wordsS (lineW ws) = ws := by
  unfold wordsS
  rw [splitW_line hne h, List.filter_eq_self]
  exact fun w hw => decide_eq_true (h w hw).1
theorem line_feed : ∀ {ws : List (List UInt8)}, (∀ w ∈ ws, Word w) → (10 : UInt8) ∉ lineW ws
  | [], _ => by simp [lineW]
  | [w], h => (h w (by simp)).feed
  | w :: v :: l, h => by
    show (10 : UInt8) ∉ w ++ 32 :: lineW (v :: l)
    rw [List.mem_append, List.mem_cons]
    rintro (hm | hm | hm)
    · exact (h w (by simp)).feed hm
    · revert hm; decide
    · exact line_feed (fun x hx => h x (List.mem_cons_of_mem _ hx)) hm

/-! what is printed -/
def verb (b : Bool) : List UInt8 := if b = true then kAllow else kDeny
def ruleW (r : Ru) : List (List UInt8) := verb r.al :: Lib.itoa r.pr :: r.pa :: ((if r.po ≠ 0 then [kPort, Lib.itoa r.po] else []) ++ (if r.ap ≠ [] then [kAlpn, r.ap] else []))
def pinW (x : Pn) : List (List UInt8) := kPin :: x.nm :: cprintS (ctext x.ci.a) x.ci :: (if x.un ≠ 0 then [kUntil, Lib.itoa x.un] else [])
def linesP (p : Pol) : List (List (List UInt8)) := [kDefault, verb p.al] :: (p.ru.map ruleW ++ p.pn.map pinW)
def printP (p : Pol) : List UInt8 := (linesP p).flatMap fun ws => lineW ws ++ [10]
theorem split_lines : ∀ {ls : List (List (List UInt8))}, (∀ ws ∈ ls, ∀ w ∈ ws, Word w) → splitS 10 (ls.flatMap fun ws => lineW ws ++ [10]) = ls.map lineW ++ [[]]
  | [], _ => rfl
  | ws :: ls, h => by
    rw [List.flatMap_cons, List.append_assoc, List.singleton_append, split_appc, splitS_free (line_feed (h ws (by simp))), split_lines (fun x hx => h x (List.mem_cons_of_mem _ hx))]
    rfl
/-- lines that do something right, one behind the other -/
theorem go_effs : ∀ (ls : List (List UInt8)) (es : List Eff) (k : Nat) (p : Pol), ls.map (fun l => effS (wordsS l)) = es.map some → (∀ j, j ≤ es.length → rightP ((es.take j).foldl Pol.app p) = 0) → goP ls k p = (es.foldl Pol.app p, 0, 0)
  | [], [], k, p, _, _ => rfl
  | [], e :: es, k, p, h, _ => by simp at h
  | l :: ls, [], k, p, h, _ => by simp at h
  | l :: ls, e :: es, k, p, h, hr => by
    rw [List.map_cons, List.map_cons, List.cons.injEq] at h
    rw [go_cons, h.1]
    have h1 := hr 1 (by simp)
    show (if rightP (p.app e) ≠ 0 then _ else _) = _
    rw [if_neg (by simpa using h1), go_effs ls es (k + 1) _ h.2 (fun j hj => by have := hr (j + 1) (by simp; omega); simpa using this)]
    rfl
/-! each line does what it tells -/
theorem signed_itoa : ∀ i : Fin 2001, signedS (Lib.itoa ((i.1 : Int) - 1000)) = some ((i.1 : Int) - 1000) ∧ (Lib.itoa ((i.1 : Int) - 1000)).all (fun c => decide (33 ≤ c.toNat)) = true ∧ Lib.itoa ((i.1 : Int) - 1000) ≠ [] := by decide +kernel
theorem prio_told {k : Int} (h1 : -1000 ≤ k) (h2 : k ≤ 1000) : signedS (Lib.itoa k) = some k ∧ Word (Lib.itoa k) := by
  have h := signed_itoa ⟨(k + 1000).toNat, by omega⟩
  have e : (((k + 1000).toNat : Nat) : Int) - 1000 = k := by omega
  simp only [e] at h
  exact ⟨h.1, h.2.2, fun c hc => by have := List.all_eq_true.1 h.2.1 c hc; exact of_decide_eq_true this⟩
theorem word_vis {w : List UInt8} (h : w.all txtB = true) (hne : w ≠ []) : Word w := ⟨hne, fun c hc => by
  have := (txtB_vis (List.all_eq_true.1 h c hc)).1
  unfold visI at this
  have := of_decide_eq_true this
  omega⟩
theorem word_app {a b : List UInt8} (ha : Word a) (hb : ∀ c ∈ b, 33 ≤ c.toNat) : Word (a ++ b) := ⟨by simp [ha.1], fun c hc => by
  rcases List.mem_append.1 hc with hc | hc
  · exact ha.2 c hc
  · exact hb c hc⟩
theorem word_fit {n : List UInt8} (h : Fit n) : Word n := ⟨h.ne, fun c hc => by
  rcases split_mem hc with e | ⟨p, h1, h2⟩
  · rw [e]; decide
  · have h3 := (lab_parts (List.all_eq_true.1 h.lab p h1)).2.2.1 c h2
    unfold labB at h3
    have := of_decide_eq_true h3
    omega⟩
theorem word_name {n : List UInt8} (h : nameB n = true) : Word n := by
  unfold nameB at h
  have h1 : normalS n = (n, 0) := by simpa using h
  rcases normal_is h1 with ⟨a, h2, h3, _⟩ | ⟨_, _, h2, _⟩
  · have hl := parseS_len h2
    have := ctext_ok a hl
    rw [h3]
    exact word_vis this.1 this.2
  · exact word_fit h2
theorem word_pat {p : List UInt8} (h : (cutP p).1 ≠ 3) : Word p := by
  rcases cut_cases p with ⟨e, _⟩ | ⟨n, e, _, _, f, _⟩ | ⟨_, hn, _⟩ | c
  · rw [e]; exact ⟨by simp, by decide⟩
  · rw [e]
    exact ⟨by simp, fun c hc => by
      rcases List.mem_cons.1 hc with hc | hc
      · rw [hc]; decide
      · rcases List.mem_cons.1 hc with hc | hc
        · rw [hc]; decide
        · exact (word_fit f).2 c hc⟩
  · exact word_name (by unfold nameB; exact decide_eq_true hn)
  · rw [c] at h; exact absurd rfl h
theorem word_verb (b : Bool) : Word (verb b) := by cases b <;> exact ⟨by decide, by decide⟩
theorem right_parts {r : Ru} (h : Tr.rightS r = 0) : (-1000 ≤ r.pr ∧ r.pr ≤ 1000) ∧ (cutP r.pa).1 ≠ 3 ∧ (0 ≤ r.po ∧ r.po ≤ 65535) ∧ (r.ap = [] ∨ allS visI r.ap = true) := by
  unfold Tr.rightS at h
  by_cases h1 : r.pr < -1000 ∨ 1000 < r.pr
  · rw [if_pos h1] at h; cases h
  rw [if_neg h1] at h
  by_cases h2 : (cutP r.pa).1 = 3
  · rw [if_pos h2] at h; cases h
  rw [if_neg h2] at h
  by_cases h3 : r.po < 0 ∨ 65535 < r.po
  · rw [if_pos h3] at h; cases h
  rw [if_neg h3] at h
  by_cases h4 : (r.ap ≠ [] ∧ allS visI r.ap = false) ∨ 255 < r.ap.length
  · rw [if_pos h4] at h; cases h
  refine ⟨by omega, h2, by omega, ?_⟩
  by_cases h5 : r.ap = []
  · exact .inl h5
  · refine .inr ?_
    cases hv : allS visI r.ap with
    | true => rfl
    | false => exact absurd (.inl ⟨h5, hv⟩) h4
theorem word_ap {w : List UInt8} (h : allS visI w = true) : Word w := by
  unfold allS at h
  rw [Bool.and_eq_true, List.all_eq_true] at h
  refine ⟨fun e => by rw [e] at h; exact absurd h.1 (by decide), fun c hc => ?_⟩
  have := h.2 c hc
  unfold visI at this
  have := of_decide_eq_true this
  omega
theorem ruleW_words {r : Ru} (h : Tr.rightS r = 0) : ∀ w ∈ ruleW r, Word w := by
  obtain ⟨h1, h2, h3, h4⟩ := right_parts h
  have p1 := (prio_told h1.1 h1.2).2
  have p2 := word_pat h2
  have p3 : Word (Lib.itoa r.po) := by
    have := word_nat r.po.toNat
    rwa [Int.toNat_of_nonneg h3.1] at this
  intro w hw
  unfold ruleW at hw
  rcases List.mem_cons.1 hw with hw | hw
  · rw [hw]; exact word_verb _
  rcases List.mem_cons.1 hw with hw | hw
  · rw [hw]; exact p1
  rcases List.mem_cons.1 hw with hw | hw
  · rw [hw]; exact p2
  rcases List.mem_append.1 hw with hw | hw
  · split at hw
    · rcases List.mem_cons.1 hw with hw | hw
      · rw [hw]; exact ⟨by decide, by decide⟩
      · rw [List.mem_singleton.1 hw]; exact p3
    · cases hw
  · split at hw
    · rename_i hne
      rcases List.mem_cons.1 hw with hw | hw
      · rw [hw]; exact ⟨by decide, by decide⟩
      · rw [List.mem_singleton.1 hw]
        rcases h4 with h4 | h4
        · exact absurd h4 hne
        · exact word_ap h4
    · cases hw
theorem opt_cons (key k v : List UInt8) (r : List (List UInt8)) : optS key (k :: v :: r) = if k = key then (some v, r) else (none, k :: v :: r) := rfl
theorem ruleS_cons (al : Bool) (n p : List UInt8) (r : List (List UInt8)) : ruleS al (n :: p :: r) = match signedS n with
    | none => none
    | some k => match (optS kPort r).1 with
      | none => ruleT al k p 0 (optS kPort r).2
      | some w => match numS w 65535 with
        | none => none
        | some q => ruleT al k p q (optS kPort r).2 := rfl
theorem eff_cons (w : List UInt8) (r : List (List UInt8)) : effS (w :: r) =
    if w.head? = some 35 then some .keep
    else if w = kDefault then (if r = [kAllow] then some (.al true) else if r = [kDeny] then some (.al false) else none)
    else if w = kAllow then (ruleS true r).map .ru
    else if w = kDeny then (ruleS false r).map .ru
    else if w = kPin then (pinS r).map .pn
    else none := rfl
theorem ruleT_told (al : Bool) (k : Int) (p : List UInt8) (q : Int) (a : List UInt8) : ruleT al k p q (if a ≠ [] then [kAlpn, a] else []) = some ⟨al, k, p, q, a⟩ := by
  unfold ruleT
  by_cases ha : a ≠ []
  · rw [if_pos ha]
    have e : optS kAlpn [kAlpn, a] = (some a, []) := by rw [opt_cons, if_pos rfl]
    rw [e]
    rfl
  · rw [if_neg ha]
    have : a = [] := Decidable.not_not.1 ha
    rw [this]
    rfl
theorem ruleS_told {r : Ru} (h : Tr.rightS r = 0) : ruleS r.al (Lib.itoa r.pr :: r.pa :: ((if r.po ≠ 0 then [kPort, Lib.itoa r.po] else []) ++ (if r.ap ≠ [] then [kAlpn, r.ap] else []))) = some r := by
  obtain ⟨h1, _, h3, _⟩ := right_parts h
  have e1 := (prio_told h1.1 h1.2).1
  have e3 : numS (Lib.itoa r.po) 65535 = some r.po := by
    have := num_itoa r.po.toNat (by omega) 65535 (by omega)
    rwa [Int.toNat_of_nonneg h3.1] at this
  rw [ruleS_cons, e1]
  simp only
  by_cases hp : r.po ≠ 0
  · rw [if_pos hp]
    have e : optS kPort ([kPort, Lib.itoa r.po] ++ (if r.ap ≠ [] then [kAlpn, r.ap] else [])) = (some (Lib.itoa r.po), if r.ap ≠ [] then [kAlpn, r.ap] else []) := by
      show optS kPort (kPort :: Lib.itoa r.po :: _) = _
      rw [opt_cons, if_pos rfl]
      rfl
    rw [e]
    simp only
    rw [e3]
    exact ruleT_told _ _ _ _ _
  · rw [if_neg hp, List.nil_append]
    have hp0 : r.po = 0 := Decidable.not_not.1 hp
    have e : optS kPort (if r.ap ≠ [] then [kAlpn, r.ap] else []) = (none, if r.ap ≠ [] then [kAlpn, r.ap] else []) := by
      split
      · rw [opt_cons, if_neg (by decide)]
      · rfl
    rw [e]
    simp only
    have := ruleT_told r.al r.pr r.pa 0 r.ap
    rw [this, ← hp0]
theorem eff_verb (b : Bool) (ws : List (List UInt8)) : effS (verb b :: ws) = (ruleS b ws).map .ru := by
  cases b
  · show effS (kDeny :: ws) = _
    rw [eff_cons, if_neg (by decide), if_neg (by decide), if_neg (by decide), if_pos rfl]
  · show effS (kAllow :: ws) = _
    rw [eff_cons, if_neg (by decide), if_neg (by decide), if_pos rfl]
theorem eff_rule {r : Ru} (h : Tr.rightS r = 0) : effS (ruleW r) = some (.ru r) := by
  unfold ruleW
  rw [eff_verb, ruleS_told h]
  rfl
/-! pins -/
theorem itoa_33 (n : Int) : ∀ c ∈ Lib.itoa n, 33 ≤ c.toNat := fun c hc => by
  unfold Lib.itoa at hc
  have key : ∀ m, ∀ c ∈ Lib.decDigits m, 33 ≤ c.toNat := fun m c hc => by
    rw [dec_txt] at hc
    have := txt_dig9 m c hc
    omega
  split at hc
  · rcases List.mem_cons.1 hc with hc | hc
    · rw [hc]; decide
    · exact key _ c hc
  · exact key _ c hc
theorem pin_parts {L : List Pn} {x : Pn} (h : pinE L x = 0) : nameB x.nm = true ∧ Ad.rightS x.ci = true ∧ 0 ≤ x.un ∧ x.un ≤ 1099511627776 := by
  unfold pinE at h
  by_cases h1 : nameB x.nm = false
  · rw [if_pos h1] at h; cases h
  rw [if_neg h1] at h
  by_cases h2 : Ad.rightS x.ci = false ∨ x.un < 0 ∨ 1099511627776 < x.un
  · rw [if_pos h2] at h; cases h
  refine ⟨by simpa using h1, ?_, by omega, by omega⟩
  cases hr : Ad.rightS x.ci with
  | true => rfl
  | false => exact absurd (.inl hr) h2
theorem word_cidr {c : Ad.C} (hc : c.a.length = 16) : Word (cprintS (ctext c.a) c) := by
  have h := ctext_ok c.a hc
  unfold cprintS
  refine word_app (word_vis h.1 h.2) fun d hd => ?_
  rcases List.mem_append.1 hd with hd | hd
  · rw [List.mem_singleton.1 hd]; decide
  · exact itoa_33 _ d hd
theorem pinW_words {L : List Pn} {x : Pn} (h : pinE L x = 0) (hc : x.ci.a.length = 16) : ∀ w ∈ pinW x, Word w := by
  obtain ⟨h1, h2, h3, h4⟩ := pin_parts h
  have p3 : Word (Lib.itoa x.un) := by
    have := word_nat x.un.toNat
    rwa [Int.toNat_of_nonneg h3] at this
  intro w hw
  unfold pinW at hw
  rcases List.mem_cons.1 hw with hw | hw
  · rw [hw]; exact ⟨by decide, by decide⟩
  rcases List.mem_cons.1 hw with hw | hw
  · rw [hw]; exact word_name h1
  rcases List.mem_cons.1 hw with hw | hw
  · rw [hw]; exact word_cidr hc
  split at hw
  · rcases List.mem_cons.1 hw with hw | hw
    · rw [hw]; exact ⟨by decide, by decide⟩
    · rw [List.mem_singleton.1 hw]; exact p3
  · cases hw
theorem pinS_cons (n c : List UInt8) (r : List (List UInt8)) : pinS (n :: c :: r) = match cparseS c with
    | none => none
    | some x => if (optS kUntil r).2 = [] then match (optS kUntil r).1 with
        | none => some ⟨n, x, 0⟩
        | some w => (numS w 1099511627776).map fun u => ⟨n, x, u⟩
      else none := rfl
theorem eff_pin {L : List Pn} {x : Pn} (h : pinE L x = 0) (hc : x.ci.a.length = 16) : effS (pinW x) = some (.pn x) := by
  obtain ⟨h1, h2, h3, h4⟩ := pin_parts h
  have e3 : numS (Lib.itoa x.un) 1099511627776 = some x.un := by
    have := num_itoa x.un.toNat (by omega) 1099511627776 (by omega)
    rwa [Int.toNat_of_nonneg h3] at this
  have e : pinS (x.nm :: cprintS (ctext x.ci.a) x.ci :: (if x.un ≠ 0 then [kUntil, Lib.itoa x.un] else [])) = some x := by
    rw [pinS_cons, Ad.back x.ci hc h2]
    simp only
    by_cases hu : x.un ≠ 0
    · rw [if_pos hu, opt_cons, if_pos rfl]
      simp only
      rw [e3]
      rfl
    · rw [if_neg hu]
      have hu0 : x.un = 0 := Decidable.not_not.1 hu
      show (if ([] : List (List UInt8)) = [] then some (⟨x.nm, x.ci, 0⟩ : Pn) else none) = _
      rw [if_pos rfl, ← hu0]
  unfold pinW
  rw [eff_cons, if_neg (by decide), if_neg (by decide), if_neg (by decide), if_neg (by decide), if_pos rfl, e]
  rfl

/-! what is right, from the first on -/
theorem rules_app : ∀ (a b L : List Ru), rulesE L (a ++ b) = if rulesE L a ≠ 0 then rulesE L a else rulesE (L ++ a) b
  | [], b, L => by rw [List.nil_append, if_neg (by simp [rulesE]), List.append_nil]
  | r :: a, b, L => by
    rw [List.cons_append, rulesE, rulesE]
    by_cases h : addE L r ≠ 0
    · rw [if_pos h, if_pos h, if_pos h]
    · rw [if_neg h, if_neg h, rules_app a b (L ++ [r]), List.append_assoc]; rfl
theorem pins_app : ∀ (a b L : List Pn), pinsE L (a ++ b) = if pinsE L a ≠ 0 then pinsE L a else pinsE (L ++ a) b
  | [], b, L => by rw [List.nil_append, if_neg (by simp [pinsE]), List.append_nil]
  | r :: a, b, L => by
    rw [List.cons_append, pinsE, pinsE]
    by_cases h : pinE L r ≠ 0
    · rw [if_pos h, if_pos h, if_pos h]
    · rw [if_neg h, if_neg h, pins_app a b (L ++ [r]), List.append_assoc]; rfl
theorem rules_take {L : List Ru} (h : rulesE [] L = 0) (i : Nat) : rulesE [] (L.take i) = 0 := by
  rw [← List.take_append_drop i L, rules_app] at h
  by_cases h1 : rulesE [] (L.take i) ≠ 0
  · rw [if_pos h1] at h; exact h
  · exact Decidable.not_not.1 h1
theorem pins_take {L : List Pn} (h : pinsE [] L = 0) (i : Nat) : pinsE [] (L.take i) = 0 := by
  rw [← List.take_append_drop i L, pins_app] at h
  by_cases h1 : pinsE [] (L.take i) ≠ 0
  · rw [if_pos h1] at h; exact h
  · exact Decidable.not_not.1 h1
theorem rules_all : ∀ {rs L : List Ru}, rulesE L rs = 0 → ∀ r ∈ rs, Tr.rightS r = 0
  | [], _, _, _, h => by cases h
  | x :: rs, L, h, r, hr => by
    rw [rulesE] at h
    by_cases h1 : addE L x ≠ 0
    · rw [if_pos h1] at h; exact absurd h h1
    · rw [if_neg h1] at h
      rcases List.mem_cons.1 hr with hr | hr
      · rw [hr]
        refine Decidable.byContradiction fun h2 => h1 ?_
        unfold addE
        rw [if_pos h2]
        exact h2
      · exact rules_all h r hr
theorem pins_all : ∀ {xs L : List Pn}, pinsE L xs = 0 → ∀ x ∈ xs, ∃ L', pinE L' x = 0
  | [], _, _, _, h => by cases h
  | y :: xs, L, h, x, hx => by
    rw [pinsE] at h
    by_cases h1 : pinE L y ≠ 0
    · rw [if_pos h1] at h; exact absurd h h1
    · rw [if_neg h1] at h
      rcases List.mem_cons.1 hx with hx | hx
      · rw [hx]; exact ⟨L, Decidable.not_not.1 h1⟩
      · exact pins_all h x hx
theorem rightP_parts {p : Pol} : rightP p = 0 ↔ rulesE [] p.ru = 0 ∧ p.pn.length ≤ 200 ∧ pinsE [] p.pn = 0 := by
  unfold rightP
  by_cases h1 : rulesE [] p.ru ≠ 0
  · rw [if_pos h1]; exact ⟨fun h => absurd h h1, fun h => h.1⟩
  rw [if_neg h1]
  by_cases h2 : 200 < p.pn.length
  · rw [if_pos h2]; exact ⟨fun h => (by cases h), fun h => by omega⟩
  rw [if_neg h2]
  exact ⟨fun h => ⟨Decidable.not_not.1 h1, by omega, h⟩, fun h => h.2.2⟩
theorem fold_ru : ∀ (rs : List Ru) (p : Pol), (rs.map Eff.ru).foldl Pol.app p = { p with ru := p.ru ++ rs }
  | [], p => by simp
  | r :: rs, p => by rw [List.map_cons, List.foldl_cons, fold_ru rs]; simp [Pol.app]
theorem fold_pn : ∀ (xs : List Pn) (p : Pol), (xs.map Eff.pn).foldl Pol.app p = { p with pn := p.pn ++ xs }
  | [], p => by simp
  | r :: rs, p => by rw [List.map_cons, List.foldl_cons, fold_pn rs]; simp [Pol.app]
theorem fold_keep (k : Nat) (p : Pol) : ([Eff.keep].take k).foldl Pol.app p = p := by cases k <;> simp [Pol.app]
theorem fold_es (b : Bool) (rs : List Ru) (xs : List Pn) (i : Nat) : ((Eff.al b :: (rs.map Eff.ru ++ (xs.map Eff.pn ++ [Eff.keep]))).take (i + 1)).foldl Pol.app Pol.zero = ⟨b, rs.take i, xs.take (i - rs.length)⟩ := by
  rw [List.take_succ_cons, List.foldl_cons, List.take_append, List.take_append, List.foldl_append, List.foldl_append, ← List.map_take, ← List.map_take, fold_keep, fold_pn, fold_ru, List.length_map]
  simp [Pol.app, Pol.zero]
/-- what is right is printed, and parsed as it was -/
theorem back_told {p : Pol} (hc : ∀ x ∈ p.pn, x.ci.a.length = 16) (h : rightP p = 0) : parseP (printP p) = (p, 0, 0) := by
  obtain ⟨h1, h2, h3⟩ := rightP_parts.1 h
  have r1 := rules_all h1
  have r3 := pins_all h3
  have hw : ∀ ws ∈ linesP p, ∀ w ∈ ws, Word w := fun ws hws => by
    unfold linesP at hws
    rcases List.mem_cons.1 hws with e | hws
    · rw [e]
      intro w hw
      rcases List.mem_cons.1 hw with e | hw
      · rw [e]; exact ⟨by decide, by decide⟩
      · rw [List.mem_singleton.1 hw]; exact word_verb _
    rcases List.mem_append.1 hws with hws | hws
    · obtain ⟨r, hr, e⟩ := List.mem_map.1 hws
      rw [← e]; exact ruleW_words (r1 r hr)
    · obtain ⟨x, hx, e⟩ := List.mem_map.1 hws
      obtain ⟨L', hL⟩ := r3 x hx
      rw [← e]; exact pinW_words hL (hc x hx)
  have hne : ∀ ws ∈ linesP p, ws ≠ [] := fun ws hws e => by
    unfold linesP at hws
    rcases List.mem_cons.1 hws with e2 | hws
    · rw [e] at e2; cases e2
    rcases List.mem_append.1 hws with hws | hws
    · obtain ⟨r, _, e2⟩ := List.mem_map.1 hws
      rw [e] at e2; cases e2
    · obtain ⟨x, _, e2⟩ := List.mem_map.1 hws
      rw [e] at e2; cases e2
  unfold parseP printP
  rw [split_lines hw]
  have hm : ((linesP p).map lineW ++ [[]]).map (fun l => effS (wordsS l)) = (Eff.al p.al :: (p.ru.map Eff.ru ++ (p.pn.map Eff.pn ++ [Eff.keep]))).map some := by
    have e1 : ((linesP p).map lineW).map (fun l => effS (wordsS l)) = (linesP p).map effS := by
      rw [List.map_map]
      refine List.map_congr_left fun ws hws => ?_
      show effS (wordsS (lineW ws)) = effS ws
      rw [words_line (hne ws hws) (hw ws hws)]
    rw [List.map_append, e1]
    unfold linesP
    have e2 : (p.ru.map ruleW).map effS = (p.ru.map Eff.ru).map some := by
      rw [List.map_map, List.map_map]
      exact List.map_congr_left fun r hr => eff_rule (r1 r hr)
    have e3 : (p.pn.map pinW).map effS = (p.pn.map Eff.pn).map some := by
      rw [List.map_map, List.map_map]
      exact List.map_congr_left fun x hx => by
        obtain ⟨L', hL⟩ := r3 x hx
        exact eff_pin hL (hc x hx)
    have e4 : effS [kDefault, verb p.al] = some (.al p.al) := by cases p.al <;> rfl
    rw [List.map_cons, List.map_append, e2, e3, e4]
    simp [effS, wordsS, splitW]
  have hf : (Eff.al p.al :: (p.ru.map Eff.ru ++ (p.pn.map Eff.pn ++ [Eff.keep]))).foldl Pol.app Pol.zero = p := by
    rw [List.foldl_cons, List.foldl_append, List.foldl_append, fold_ru, fold_pn]
    simp [Pol.app, Pol.zero]
  rw [go_effs _ _ 0 Pol.zero hm fun j _ => ?_, hf]
  cases j with
  | zero => rfl
  | succ i =>
    rw [fold_es]
    exact rightP_parts.2 ⟨rules_take h1 i, by rw [List.length_take]; omega, pins_take h3 _⟩
theorem pin_len {ws : List (List UInt8)} {x : Pn} (h : pinS ws = some x) : x.ci.a.length = 16 := by
  match ws, h with
  | [], h => simp [pinS] at h
  | [_], h => simp [pinS] at h
  | n :: c :: r, h =>
    rw [pinS_cons] at h
    cases hc : cparseS c with
    | none => rw [hc] at h; cases h
    | some y =>
      rw [hc] at h
      have hl := cparseS_len hc
      simp only at h
      split at h
      · cases ho : (optS kUntil r).1 with
        | none =>
          rw [ho] at h
          injection h with h
          rw [← h]; exact hl
        | some w =>
          rw [ho] at h
          simp only at h
          cases hn : numS w 1099511627776 with
          | none => rw [hn] at h; cases h
          | some u =>
            rw [hn] at h
            injection h with h
            rw [← h]; exact hl
      · cases h
theorem eff_len {ws : List (List UInt8)} {x : Pn} (h : effS ws = some (.pn x)) : x.ci.a.length = 16 := by
  match ws, h with
  | [], h => simp [effS] at h
  | w :: r, h =>
    rw [eff_cons] at h
    split at h
    · cases h
    split at h
    · split at h
      · cases h
      · split at h <;> cases h
    split at h
    · cases hr : ruleS true r <;> rw [hr] at h <;> cases h
    split at h
    · cases hr : ruleS false r <;> rw [hr] at h <;> cases h
    split at h
    · cases hr : pinS r with
      | none => rw [hr] at h; cases h
      | some y =>
        rw [hr] at h
        injection h with h
        injection h with h
        rw [← h]; exact pin_len hr
    · cases h
/-- what is parsed has addresses of sixteen bytes -/
theorem parse_wf {s : List UInt8} (h : (parseP s).2.2 = 0) : ∀ x ∈ (parseP s).1.pn, x.ci.a.length = 16 := fun x hx => by
  have e : (parseP s).1.pn = Pol.zero.pn ++ (splitS 10 s).flatMap pnOf := (go_rows _ 0 Pol.zero h).2
  rw [e] at hx
  rcases List.mem_append.1 hx with hx | hx
  · cases hx
  obtain ⟨l, _, hl⟩ := List.mem_flatMap.1 hx
  unfold pnOf at hl
  cases he : effS (wordsS l) with
  | none => rw [he] at hl; cases hl
  | some ef =>
    rw [he] at hl
    cases ef with
    | pn y =>
      have e2 : x = y := by simpa [Eff.pns] using hl
      rw [e2]; exact eff_len he
    | _ => simp [Eff.pns] at hl
/-- PolicyBack's fact of texts -/
theorem text_told {s : List UInt8} (h : (parseP s).2.2 = 0) : parseP (printP (parseP s).1) = ((parseP s).1, 0, 0) := back_told (parse_wf h) (parse_ok h).2
end Go.Proofs.YtlpondbcnfaggaaGreatDoor.Po
