/-
  Contracts of hagioscoperef14's Normal and Labels over this seat's translation: they answer what normalS and labelsS say.
-/
import Derived.Test.YtlpondbcnfaggaaGreatDoorQ22
import Derived.Test.YtlpondbcnfaggaaGreatDoorQ10
import Derived.Deep.QuietTactic
namespace Go.Proofs.YtlpondbcnfaggaaGreatDoor.Nm
open Go.RowKit Go.Proofs.YtlpondbcnfaggaaGreatDoor.Wd Go.Proofs.YtlpondbcnfaggaaGreatDoor.Asc Go.Proofs.YtlpondbcnfaggaaGreatDoor.Ad

theorem rparse_at (s : ByteArray) (hs : s.size ≤ 2147483640) (o : Option (List UInt8)) (hx : Ad.parseS (bs s) = o) : ∃ V : List UInt8, V.length = 16 ∧ (∀ a, o = some a → V = a) ∧
    ∀ w, Calls Tryz.prog 73 #[.string s] w fun e w' => e = .returned (.tuple #[.agg (Ad.cA V), .bool o.isSome]) ∧ Below w.heap.size w w' := by
  have h := fun w => Ad.rparse_any s w hs
  unfold Ad.RParPost at h
  rw [hx] at h
  cases o with
  | none => exact ⟨List.replicate 16 0, rfl, fun a e => (by cases e), h⟩
  | some a => exact ⟨a, Ad.parseS_len hx, fun b e => Option.some.inj e, h⟩
theorem last_is {L : List (List UInt8)} (h : L ≠ []) : L[L.length - 1]? = some (L.getLastD []) := by
  rw [← List.getLast?_eq_getElem?, List.getLast?_eq_some_getLast h, List.getLastD_eq_getLast?, List.getLast?_eq_some_getLast h]
  rfl
theorem OwnR.rowL {w : World} {B : Nat} {v : Value} {L : List (List UInt8)} (h : Ad.OwnR w B v L) (hn : L ≠ []) : RowL w v L := by
  obtain ⟨g, c, hv, _, hg, hc, hr⟩ := h.form hn
  exact ⟨g, c, hv, hc, hg, hr⟩

set_option linter.unusedSimpArgs false in
set_option maxRecDepth 100000 in
set_option maxHeartbeats 16000000 in
theorem rnorm_any (s : ByteArray) (w : World) (hs : s.size ≤ 2147483640) :
    Calls Tryz.prog 118 #[.string s] w fun e w' => e = resN (normalS (bs s)) ∧ Below w.heap.size w w' := by
  cases hx : Ad.parseS (bs s) with
  | some a =>
    obtain ⟨V, hV, hVa, hP⟩ := rparse_at s hs _ hx
    obtain rfl := hVa a rfl
    have HPa2 : Hid (∀ w, Calls Tryz.prog 73 #[.string s] w fun e w' => e = .returned (.tuple #[.agg (Ad.cA V), .bool true]) ∧ Below w.heap.size w w') := Lib.hid hP
    have HPr := Lib.hid (fun w => Ad.rprint_any V hV w)
    rw [normal_addr hx]
    generalize Ad.ctext V = T at *
    clear hP hx hVa
    go_enter Tryz.func118, Tryz.ntmps118
    go_wp2_with fail
    refine (HPa2.out _).mono ?_
    rintro e w2 ⟨rfl, hb⟩
    have HB1 := Lib.hid hb
    clear hb HPa2
    go_upto_region 2 with (refine St.go_st 48 (Blk.new _ _ _) Ad.info16 rfl (by rw [Ad.cA_size, hV]) (Ad.cA_one _) rfl rfl rfl rfl ?_)
    obtain ⟨hk, hbl⟩ := adr_new w2 V
    have HB2 := Lib.hid (HB1.out.trans (hbl.mono HB1.out.size))
    have HK := Lib.hid hk
    clear hk hbl HB1
    generalize (w2.alloc (.cells #[Value.int .u8 0, Value.int .u8 0, Value.int .u8 0, Value.int .u8 0, Value.int .u8 0, Value.int .u8 0, Value.int .u8 0, Value.int .u8 0, Value.int .u8 0, Value.int .u8 0, Value.int .u8 0, Value.int .u8 0, Value.int .u8 0, Value.int .u8 0, Value.int .u8 0, Value.int .u8 0] 48)).setRow w2.heap.size (Ad.cA V) = w3 at *
    generalize w2.heap.size = g at *
    have k3 := HK.out
    go_wp2_with (refine St.go_ld 48 k3 Ad.und16 rfl Ad.info16 (by rw [Ad.cA_size, hV]) rfl rfl rfl ?_)
    refine (HPr.out _).mono ?_
    rintro e w4 ⟨rfl, hb4⟩
    have HB4 := Lib.hid (HB2.out.trans (hb4.mono HB2.out.size))
    clear hb4 k3 HK HB2
    go_wp2_with fail
    go_ret2
    exact ⟨rfl, HB4.out⟩
  | none =>
    obtain ⟨V, hV, hVa, hP⟩ := rparse_at s hs _ hx
    clear hVa
    have HPa2 : Hid (∀ w, Calls Tryz.prog 73 #[.string s] w fun e w' => e = .returned (.tuple #[.agg (Ad.cA V), .bool false]) ∧ Below w.heap.size w w') := Lib.hid hP
    have HL := Lib.hid (fun w => rlowers_any s w (by omega))
    obtain ⟨l, hl⟩ : ∃ l, lowS s = l := ⟨_, rfl⟩
    have hlb : bs l = (bs s).map lowB := by rw [← hl]; rfl
    have hlz : l.size = s.size := by rw [← hl, low_size]
    rw [hl] at HL
    rw [normal_name hx, ← hlb]
    have hl9 : l.size ≤ 2147483640 := by omega
    clear hP hx hl hlb hlz
    go_enter Tryz.func118, Tryz.ntmps118
    go_wp2_with fail
    refine (HPa2.out _).mono ?_
    rintro e w2 ⟨rfl, hb⟩
    have HB1 := Lib.hid hb
    clear hb HPa2
    go_upto_region 2 with (refine St.go_st 48 (Blk.new _ _ _) Ad.info16 rfl (by rw [Ad.cA_size, hV]) (Ad.cA_one _) rfl rfl rfl rfl ?_)
    obtain ⟨_, hbl⟩ := adr_new w2 V
    have HB2 := Lib.hid (HB1.out.trans (hbl.mono HB1.out.size))
    clear hbl HB1
    generalize (w2.alloc (.cells #[Value.int .u8 0, Value.int .u8 0, Value.int .u8 0, Value.int .u8 0, Value.int .u8 0, Value.int .u8 0, Value.int .u8 0, Value.int .u8 0, Value.int .u8 0, Value.int .u8 0, Value.int .u8 0, Value.int .u8 0, Value.int .u8 0, Value.int .u8 0, Value.int .u8 0, Value.int .u8 0] 48)).setRow w2.heap.size (Ad.cA V) = w3 at *
    go_wp2_with fail
    refine (HL.out _).mono ?_
    rintro e w4 ⟨rfl, hb⟩
    have HB4 := Lib.hid (HB2.out.trans (hb.mono HB2.out.size))
    clear hb HL HB2 hs
    have hcut : ∃ X : ByteArray, Hid (bs X = trimS (bs l)) ∧ X.size ≤ l.size ∧ ((l.size = 0 ∧ X = l) ∨ ∃ m, ∃ hm : m < l.size, (l.size : Int) - 1 = (m : Int) ∧ ((((l[m]'hm).toNat : Int) == 46) = false ∧ X = l ∨ (((l[m]'hm).toNat : Int) == 46) = true ∧ l.extract 0 m = X)) := by
      by_cases h0 : l.size = 0
      · exact ⟨l, Lib.hid (by rw [bs_nil l h0]; rfl), Nat.le_refl _, .inl ⟨h0, rfl⟩⟩
      obtain ⟨m, hm⟩ : ∃ m, l.size = m + 1 := ⟨l.size - 1, by omega⟩
      have hml : m < l.size := by omega
      have hla : (bs l).getLast? = some (l[m]'hml) := by
        rw [List.getLast?_eq_getElem?, bs_length, show l.size - 1 = m by omega, List.getElem?_eq_getElem (by rw [bs_length]; exact hml)]
        exact congrArg some (bs_get l m hml)
      have e46 : (l[m]'hml = 46) ↔ ((l[m]'hml).toNat : Int) = 46 := ⟨fun h => by rw [h]; rfl, fun h => UInt8.toNat.inj (by show (l[m]'hml).toNat = 46; omega)⟩
      cases hd : (((l[m]'hml).toNat : Int) == 46)
      · refine ⟨l, Lib.hid ?_, Nat.le_refl _, .inr ⟨m, hml, by omega, .inl ⟨hd, rfl⟩⟩⟩
        unfold trimS
        rw [if_neg (by rw [hla, Option.some.injEq, e46]; exact beq_eq_false_iff_ne.1 hd)]
      · refine ⟨l.extract 0 m, Lib.hid ?_, ?_, .inr ⟨m, hml, by omega, .inr ⟨hd, rfl⟩⟩⟩
        · unfold trimS
          rw [if_pos (by rw [hla, Option.some.injEq, e46]; exact beq_iff_eq.1 hd), bs_extract, List.drop_zero, List.dropLast_eq_take, bs_length, hm]
          rfl
        · rw [← bs_length, bs_extract, List.length_take, List.length_drop, bs_length]; omega
    obtain ⟨X, HX, hXz, hXc⟩ := hcut
    have HXc := Lib.hid hXc
    clear hXc
    rcases HXc.out with ⟨hz, hXl⟩ | ⟨m, hml, hmi, ⟨hd, hXl⟩ | ⟨hd, hX⟩⟩
    · subst hXl
      have i0 : ¬ (0 : Int) < (X.size : Int) := by omega
      have i00 : ¬ 0 < X.size := by omega
      clear hz HXc
      go_upto_region 7 with fail
      clear i0 i00
      by_cases h0 : bs X = []
      · obtain ⟨e1, e2⟩ := is_empty h0
        have HQ : Hid (nameS (bs X) = ([], 8)) := Lib.hid (by rw [h0]; rfl)
        clear h0
        go_wp2_with fail
        go_ret2
        exact ⟨by rw [← HX.out, HQ.out]; rfl, HB4.out⟩
      obtain ⟨e1, e2⟩ := no_empty h0
      have H0 := Lib.hid h0
      clear h0
      by_cases h1 : 253 < X.size
      · have i1 : (253 : Int) < (X.size : Int) := by omega
        have HQ := Lib.hid (name_long H0.out (by rw [bs_length]; exact h1))
        clear h1
        go_wp2_with fail
        go_ret2
        exact ⟨by rw [← HX.out, HQ.out]; rfl, HB4.out⟩
      have i1 : ¬ (253 : Int) < (X.size : Int) := by omega
      have h1l : (bs X).length ≤ 253 := by rw [bs_length]; omega
      have HCu : Hid (∀ w, Calls Tryz.prog 149 #[.string X, .int .u8 46] w fun e w' => ∃ v, e = .returned v ∧ Ad.OwnR w' w.heap.size v (splitS 46 (bs X)) ∧ Below w.heap.size w w') := Lib.hid (fun w => Ad.rcut_any X 46 w (by omega))
      have hsz : ∀ p ∈ splitS 46 (bs X), p.length < 4294967281 := fun p hp => by
        have := spl_mem 46 (bs X) p hp
        omega
      have hlen := spl_len 46 (bs X)
      have hne := splitS_ne 46 (bs X)
      have hlast := last_is hne
      have HBad : Hid (∀ p ∈ splitS 46 (bs X), labS p = false → nameS (bs X) = ([], 9)) := Lib.hid (fun p hp h => name_bad H0.out h1l (.inl (List.all_eq_false.2 ⟨p, hp, by rw [h]; simp⟩)))
      have HDig : Hid (digS ((splitS 46 (bs X)).getLastD []) = true → nameS (bs X) = ([], 9)) := Lib.hid (fun h => name_bad H0.out h1l (.inr h))
      have HYes : Hid ((splitS 46 (bs X)).all labS = true → digS ((splitS 46 (bs X)).getLastD []) = false → nameS (bs X) = (bs X, 0)) := Lib.hid (fun h1 h2 => name_yes ⟨h1, h2⟩ h1l)
      obtain ⟨q, hq⟩ : ∃ q, (splitS 46 (bs X)).getLastD [] = q := ⟨_, rfl⟩
      rw [hq] at HDig HYes hlast
      clear hq
      obtain ⟨L, hL⟩ : ∃ L, splitS 46 (bs X) = L := ⟨_, rfl⟩
      obtain ⟨n, hn⟩ : ∃ n, L.length = n := ⟨_, rfl⟩
      rw [hL] at HCu hsz hlen hne hlast HBad HYes
      rw [hn] at hlen hlast
      have hn0 : 0 < n := by rw [← hn]; exact List.length_pos_iff.2 hne
      have hn9 : n ≤ 1000 := by omega
      have HN := Lib.hid hn
      have HZ := Lib.hid hsz
      have HLa := Lib.hid hlast
      have HNe := Lib.hid hne
      clear hsz hlen hne hlast hn hL h1l h1
      go_wp2_with fail
      refine (HCu.out _).mono ?_
      rintro e w5 ⟨v, rfl, hr, hb⟩
      obtain ⟨g, c, rfl, hc, hg, hcell⟩ := OwnR.rowL hr HNe.out
      rw [HN.out]
      have HB5 := Lib.hid (HB4.out.trans (hb.mono HB4.out.size))
      have HC := Lib.hid hcell
      clear hb hcell hc HCu hr hg HB4
      go_wp2_with fail
      go_loop [8] (fun x => ∃ k : Nat, x = .int .i64 (k : Int) ∧ k ≤ n ∧ Hid ((L.take k).all labS = true)) (fun x => n - (intOf x).toNat)
      case atStart => exact ⟨0, rfl, Nat.zero_le _, Lib.hid rfl⟩
      case round =>
        obtain ⟨k, rfl, hk, HA⟩ := hrel
        by_cases hlt : k < n
        · obtain ⟨p, hp⟩ : ∃ p, L[k]? = some p := ⟨_, List.getElem?_eq_getElem (by rw [HN.out]; exact hlt)⟩
          have hz := HZ.out p (List.mem_of_getElem? hp)
          obtain ⟨P, hP⟩ : ∃ P, str p = P := ⟨_, rfl⟩
          have hPz : P.size < 4294967281 := by rw [← hP, str_size]; exact hz
          have hcl : w5.cell? ⟨g, k, none⟩ = some (.string P) := by rw [← hP]; exact HC.out k p hp
          have hT := take_next hp
          have HK := Lib.hid (fun u => rlabel_any P u hPz)
          rw [show bs P = p by rw [← hP]; rfl] at HK
          have hki : (k : Int) < (n : Int) := by omega
          cases hm : labS p
          · rw [hm] at HK
            have HQ := Lib.hid (HBad.out p (List.mem_of_getElem? hp) hm)
            clear hm hT hz hP hPz hp
            go_wp2_with (go_at_call 154; refine (HK.out _).mono ?_; rintro e w6 ⟨rfl, rfl⟩)
            go_ret2
            exact ⟨by rw [← HX.out, HQ.out]; rfl, HB5.out⟩
          · rw [hm] at HK
            have HX2 : Hid ((L.take (k + 1)).all labS = true) := Lib.hid (by rw [hT, List.all_append, HA.out]; simpa using hm)
            clear hm hT hz hP hPz hp
            go_wp2_with (go_at_call 154; refine (HK.out _).mono ?_; rintro e w6 ⟨rfl, rfl⟩)
            go_round
            case rel => exact ⟨k + 1, by go_num, hlt, HX2⟩
            case measure => simp [intOf]; omega
        · obtain rfl : k = n := by omega
          have hal : L.all labS = true := by have h := HA.out; rwa [List.take_of_length_le (by rw [HN.out]; exact Nat.le_refl _)] at h
          obtain ⟨j, hj⟩ : ∃ j, k - 1 = j := ⟨_, rfl⟩
          have hji : (k : Int) - 1 = (j : Int) := by omega
          have hjl : j < k := by omega
          obtain ⟨P, hP⟩ : ∃ P, str q = P := ⟨_, rfl⟩
          have hqz := HZ.out q (List.mem_of_getElem? HLa.out)
          have hPz : P.size < 4294967281 := by rw [← hP, str_size]; exact hqz
          have hcl : w5.cell? ⟨g, j, none⟩ = some (.string P) := by rw [← hP]; exact HC.out j q (by rw [← hj]; exact HLa.out)
          have HK := Lib.hid (fun u => rdigits_any P u hPz)
          rw [show bs P = q by rw [← hP]; rfl] at HK
          clear hP hqz hPz hj HZ HLa HN HNe
          cases hd2 : digS q
          · rw [hd2] at HK
            have HQ := Lib.hid (HYes.out hal hd2)
            clear hal hd2
            go_wp2_with (go_at_call 155; refine (HK.out _).mono ?_; rintro e w6 ⟨rfl, rfl⟩)
            go_ret2
            exact ⟨by rw [← HX.out, HQ.out]; show _ = Ending.returned (.tuple #[.string (str (bs X)), .int .i64 0]); rw [str_bs]; rfl, HB5.out⟩
          · rw [hd2] at HK
            have HQ := Lib.hid (HDig.out hd2)
            clear hal hd2
            go_wp2_with (go_at_call 155; refine (HK.out _).mono ?_; rintro e w6 ⟨rfl, rfl⟩)
            go_ret2
            exact ⟨by rw [← HX.out, HQ.out]; rfl, HB5.out⟩
    · subst hXl
      have i0 : (0 : Int) < (X.size : Int) := by omega
      clear HXc
      go_upto_region 7 with fail
      clear i0 hd hmi
      by_cases h0 : bs X = []
      · obtain ⟨e1, e2⟩ := is_empty h0
        have HQ : Hid (nameS (bs X) = ([], 8)) := Lib.hid (by rw [h0]; rfl)
        clear h0
        go_wp2_with fail
        go_ret2
        exact ⟨by rw [← HX.out, HQ.out]; rfl, HB4.out⟩
      obtain ⟨e1, e2⟩ := no_empty h0
      have H0 := Lib.hid h0
      clear h0
      by_cases h1 : 253 < X.size
      · have i1 : (253 : Int) < (X.size : Int) := by omega
        have HQ := Lib.hid (name_long H0.out (by rw [bs_length]; exact h1))
        clear h1
        go_wp2_with fail
        go_ret2
        exact ⟨by rw [← HX.out, HQ.out]; rfl, HB4.out⟩
      have i1 : ¬ (253 : Int) < (X.size : Int) := by omega
      have h1l : (bs X).length ≤ 253 := by rw [bs_length]; omega
      have HCu : Hid (∀ w, Calls Tryz.prog 149 #[.string X, .int .u8 46] w fun e w' => ∃ v, e = .returned v ∧ Ad.OwnR w' w.heap.size v (splitS 46 (bs X)) ∧ Below w.heap.size w w') := Lib.hid (fun w => Ad.rcut_any X 46 w (by omega))
      have hsz : ∀ p ∈ splitS 46 (bs X), p.length < 4294967281 := fun p hp => by
        have := spl_mem 46 (bs X) p hp
        omega
      have hlen := spl_len 46 (bs X)
      have hne := splitS_ne 46 (bs X)
      have hlast := last_is hne
      have HBad : Hid (∀ p ∈ splitS 46 (bs X), labS p = false → nameS (bs X) = ([], 9)) := Lib.hid (fun p hp h => name_bad H0.out h1l (.inl (List.all_eq_false.2 ⟨p, hp, by rw [h]; simp⟩)))
      have HDig : Hid (digS ((splitS 46 (bs X)).getLastD []) = true → nameS (bs X) = ([], 9)) := Lib.hid (fun h => name_bad H0.out h1l (.inr h))
      have HYes : Hid ((splitS 46 (bs X)).all labS = true → digS ((splitS 46 (bs X)).getLastD []) = false → nameS (bs X) = (bs X, 0)) := Lib.hid (fun h1 h2 => name_yes ⟨h1, h2⟩ h1l)
      obtain ⟨q, hq⟩ : ∃ q, (splitS 46 (bs X)).getLastD [] = q := ⟨_, rfl⟩
      rw [hq] at HDig HYes hlast
      clear hq
      obtain ⟨L, hL⟩ : ∃ L, splitS 46 (bs X) = L := ⟨_, rfl⟩
      obtain ⟨n, hn⟩ : ∃ n, L.length = n := ⟨_, rfl⟩
      rw [hL] at HCu hsz hlen hne hlast HBad HYes
      rw [hn] at hlen hlast
      have hn0 : 0 < n := by rw [← hn]; exact List.length_pos_iff.2 hne
      have hn9 : n ≤ 1000 := by omega
      have HN := Lib.hid hn
      have HZ := Lib.hid hsz
      have HLa := Lib.hid hlast
      have HNe := Lib.hid hne
      clear hsz hlen hne hlast hn hL h1l h1
      go_wp2_with fail
      refine (HCu.out _).mono ?_
      rintro e w5 ⟨v, rfl, hr, hb⟩
      obtain ⟨g, c, rfl, hc, hg, hcell⟩ := OwnR.rowL hr HNe.out
      rw [HN.out]
      have HB5 := Lib.hid (HB4.out.trans (hb.mono HB4.out.size))
      have HC := Lib.hid hcell
      clear hb hcell hc HCu hr hg HB4
      go_wp2_with fail
      go_loop [8] (fun x => ∃ k : Nat, x = .int .i64 (k : Int) ∧ k ≤ n ∧ Hid ((L.take k).all labS = true)) (fun x => n - (intOf x).toNat)
      case atStart => exact ⟨0, rfl, Nat.zero_le _, Lib.hid rfl⟩
      case round =>
        obtain ⟨k, rfl, hk, HA⟩ := hrel
        by_cases hlt : k < n
        · obtain ⟨p, hp⟩ : ∃ p, L[k]? = some p := ⟨_, List.getElem?_eq_getElem (by rw [HN.out]; exact hlt)⟩
          have hz := HZ.out p (List.mem_of_getElem? hp)
          obtain ⟨P, hP⟩ : ∃ P, str p = P := ⟨_, rfl⟩
          have hPz : P.size < 4294967281 := by rw [← hP, str_size]; exact hz
          have hcl : w5.cell? ⟨g, k, none⟩ = some (.string P) := by rw [← hP]; exact HC.out k p hp
          have hT := take_next hp
          have HK := Lib.hid (fun u => rlabel_any P u hPz)
          rw [show bs P = p by rw [← hP]; rfl] at HK
          have hki : (k : Int) < (n : Int) := by omega
          cases hm : labS p
          · rw [hm] at HK
            have HQ := Lib.hid (HBad.out p (List.mem_of_getElem? hp) hm)
            clear hm hT hz hP hPz hp
            go_wp2_with (go_at_call 154; refine (HK.out _).mono ?_; rintro e w6 ⟨rfl, rfl⟩)
            go_ret2
            exact ⟨by rw [← HX.out, HQ.out]; rfl, HB5.out⟩
          · rw [hm] at HK
            have HX2 : Hid ((L.take (k + 1)).all labS = true) := Lib.hid (by rw [hT, List.all_append, HA.out]; simpa using hm)
            clear hm hT hz hP hPz hp
            go_wp2_with (go_at_call 154; refine (HK.out _).mono ?_; rintro e w6 ⟨rfl, rfl⟩)
            go_round
            case rel => exact ⟨k + 1, by go_num, hlt, HX2⟩
            case measure => simp [intOf]; omega
        · obtain rfl : k = n := by omega
          have hal : L.all labS = true := by have h := HA.out; rwa [List.take_of_length_le (by rw [HN.out]; exact Nat.le_refl _)] at h
          obtain ⟨j, hj⟩ : ∃ j, k - 1 = j := ⟨_, rfl⟩
          have hji : (k : Int) - 1 = (j : Int) := by omega
          have hjl : j < k := by omega
          obtain ⟨P, hP⟩ : ∃ P, str q = P := ⟨_, rfl⟩
          have hqz := HZ.out q (List.mem_of_getElem? HLa.out)
          have hPz : P.size < 4294967281 := by rw [← hP, str_size]; exact hqz
          have hcl : w5.cell? ⟨g, j, none⟩ = some (.string P) := by rw [← hP]; exact HC.out j q (by rw [← hj]; exact HLa.out)
          have HK := Lib.hid (fun u => rdigits_any P u hPz)
          rw [show bs P = q by rw [← hP]; rfl] at HK
          clear hP hqz hPz hj HZ HLa HN HNe
          cases hd2 : digS q
          · rw [hd2] at HK
            have HQ := Lib.hid (HYes.out hal hd2)
            clear hal hd2
            go_wp2_with (go_at_call 155; refine (HK.out _).mono ?_; rintro e w6 ⟨rfl, rfl⟩)
            go_ret2
            exact ⟨by rw [← HX.out, HQ.out]; show _ = Ending.returned (.tuple #[.string (str (bs X)), .int .i64 0]); rw [str_bs]; rfl, HB5.out⟩
          · rw [hd2] at HK
            have HQ := Lib.hid (HDig.out hd2)
            clear hal hd2
            go_wp2_with (go_at_call 155; refine (HK.out _).mono ?_; rintro e w6 ⟨rfl, rfl⟩)
            go_ret2
            exact ⟨by rw [← HX.out, HQ.out]; rfl, HB5.out⟩
    · have i0 : (0 : Int) < (l.size : Int) := by omega
      clear HXc
      go_upto_region 7 with fail
      clear i0 hd hmi hX
      by_cases h0 : bs X = []
      · obtain ⟨e1, e2⟩ := is_empty h0
        have HQ : Hid (nameS (bs X) = ([], 8)) := Lib.hid (by rw [h0]; rfl)
        clear h0
        go_wp2_with fail
        go_ret2
        exact ⟨by rw [← HX.out, HQ.out]; rfl, HB4.out⟩
      obtain ⟨e1, e2⟩ := no_empty h0
      have H0 := Lib.hid h0
      clear h0
      by_cases h1 : 253 < X.size
      · have i1 : (253 : Int) < (X.size : Int) := by omega
        have HQ := Lib.hid (name_long H0.out (by rw [bs_length]; exact h1))
        clear h1
        go_wp2_with fail
        go_ret2
        exact ⟨by rw [← HX.out, HQ.out]; rfl, HB4.out⟩
      have i1 : ¬ (253 : Int) < (X.size : Int) := by omega
      have h1l : (bs X).length ≤ 253 := by rw [bs_length]; omega
      have HCu : Hid (∀ w, Calls Tryz.prog 149 #[.string X, .int .u8 46] w fun e w' => ∃ v, e = .returned v ∧ Ad.OwnR w' w.heap.size v (splitS 46 (bs X)) ∧ Below w.heap.size w w') := Lib.hid (fun w => Ad.rcut_any X 46 w (by omega))
      have hsz : ∀ p ∈ splitS 46 (bs X), p.length < 4294967281 := fun p hp => by
        have := spl_mem 46 (bs X) p hp
        omega
      have hlen := spl_len 46 (bs X)
      have hne := splitS_ne 46 (bs X)
      have hlast := last_is hne
      have HBad : Hid (∀ p ∈ splitS 46 (bs X), labS p = false → nameS (bs X) = ([], 9)) := Lib.hid (fun p hp h => name_bad H0.out h1l (.inl (List.all_eq_false.2 ⟨p, hp, by rw [h]; simp⟩)))
      have HDig : Hid (digS ((splitS 46 (bs X)).getLastD []) = true → nameS (bs X) = ([], 9)) := Lib.hid (fun h => name_bad H0.out h1l (.inr h))
      have HYes : Hid ((splitS 46 (bs X)).all labS = true → digS ((splitS 46 (bs X)).getLastD []) = false → nameS (bs X) = (bs X, 0)) := Lib.hid (fun h1 h2 => name_yes ⟨h1, h2⟩ h1l)
      obtain ⟨q, hq⟩ : ∃ q, (splitS 46 (bs X)).getLastD [] = q := ⟨_, rfl⟩
      rw [hq] at HDig HYes hlast
      clear hq
      obtain ⟨L, hL⟩ : ∃ L, splitS 46 (bs X) = L := ⟨_, rfl⟩
      obtain ⟨n, hn⟩ : ∃ n, L.length = n := ⟨_, rfl⟩
      rw [hL] at HCu hsz hlen hne hlast HBad HYes
      rw [hn] at hlen hlast
      have hn0 : 0 < n := by rw [← hn]; exact List.length_pos_iff.2 hne
      have hn9 : n ≤ 1000 := by omega
      have HN := Lib.hid hn
      have HZ := Lib.hid hsz
      have HLa := Lib.hid hlast
      have HNe := Lib.hid hne
      clear hsz hlen hne hlast hn hL h1l h1
      go_wp2_with fail
      refine (HCu.out _).mono ?_
      rintro e w5 ⟨v, rfl, hr, hb⟩
      obtain ⟨g, c, rfl, hc, hg, hcell⟩ := OwnR.rowL hr HNe.out
      rw [HN.out]
      have HB5 := Lib.hid (HB4.out.trans (hb.mono HB4.out.size))
      have HC := Lib.hid hcell
      clear hb hcell hc HCu hr hg HB4
      go_wp2_with fail
      go_loop [8] (fun x => ∃ k : Nat, x = .int .i64 (k : Int) ∧ k ≤ n ∧ Hid ((L.take k).all labS = true)) (fun x => n - (intOf x).toNat)
      case atStart => exact ⟨0, rfl, Nat.zero_le _, Lib.hid rfl⟩
      case round =>
        obtain ⟨k, rfl, hk, HA⟩ := hrel
        by_cases hlt : k < n
        · obtain ⟨p, hp⟩ : ∃ p, L[k]? = some p := ⟨_, List.getElem?_eq_getElem (by rw [HN.out]; exact hlt)⟩
          have hz := HZ.out p (List.mem_of_getElem? hp)
          obtain ⟨P, hP⟩ : ∃ P, str p = P := ⟨_, rfl⟩
          have hPz : P.size < 4294967281 := by rw [← hP, str_size]; exact hz
          have hcl : w5.cell? ⟨g, k, none⟩ = some (.string P) := by rw [← hP]; exact HC.out k p hp
          have hT := take_next hp
          have HK := Lib.hid (fun u => rlabel_any P u hPz)
          rw [show bs P = p by rw [← hP]; rfl] at HK
          have hki : (k : Int) < (n : Int) := by omega
          cases hm : labS p
          · rw [hm] at HK
            have HQ := Lib.hid (HBad.out p (List.mem_of_getElem? hp) hm)
            clear hm hT hz hP hPz hp
            go_wp2_with (go_at_call 154; refine (HK.out _).mono ?_; rintro e w6 ⟨rfl, rfl⟩)
            go_ret2
            exact ⟨by rw [← HX.out, HQ.out]; rfl, HB5.out⟩
          · rw [hm] at HK
            have HX2 : Hid ((L.take (k + 1)).all labS = true) := Lib.hid (by rw [hT, List.all_append, HA.out]; simpa using hm)
            clear hm hT hz hP hPz hp
            go_wp2_with (go_at_call 154; refine (HK.out _).mono ?_; rintro e w6 ⟨rfl, rfl⟩)
            go_round
            case rel => exact ⟨k + 1, by go_num, hlt, HX2⟩
            case measure => simp [intOf]; omega
        · obtain rfl : k = n := by omega
          have hal : L.all labS = true := by have h := HA.out; rwa [List.take_of_length_le (by rw [HN.out]; exact Nat.le_refl _)] at h
          obtain ⟨j, hj⟩ : ∃ j, k - 1 = j := ⟨_, rfl⟩
          have hji : (k : Int) - 1 = (j : Int) := by omega
          have hjl : j < k := by omega
          obtain ⟨P, hP⟩ : ∃ P, str q = P := ⟨_, rfl⟩
          have hqz := HZ.out q (List.mem_of_getElem? HLa.out)
          have hPz : P.size < 4294967281 := by rw [← hP, str_size]; exact hqz
          have hcl : w5.cell? ⟨g, j, none⟩ = some (.string P) := by rw [← hP]; exact HC.out j q (by rw [← hj]; exact HLa.out)
          have HK := Lib.hid (fun u => rdigits_any P u hPz)
          rw [show bs P = q by rw [← hP]; rfl] at HK
          clear hP hqz hPz hj HZ HLa HN HNe
          cases hd2 : digS q
          · rw [hd2] at HK
            have HQ := Lib.hid (HYes.out hal hd2)
            clear hal hd2
            go_wp2_with (go_at_call 155; refine (HK.out _).mono ?_; rintro e w6 ⟨rfl, rfl⟩)
            go_ret2
            exact ⟨by rw [← HX.out, HQ.out]; show _ = Ending.returned (.tuple #[.string (str (bs X)), .int .i64 0]); rw [str_bs]; rfl, HB5.out⟩
          · rw [hd2] at HK
            have HQ := Lib.hid (HDig.out hd2)
            clear hal hd2
            go_wp2_with (go_at_call 155; refine (HK.out _).mono ?_; rintro e w6 ⟨rfl, rfl⟩)
            go_ret2
            exact ⟨by rw [← HX.out, HQ.out]; rfl, HB5.out⟩

set_option linter.unusedSimpArgs false in
set_option maxRecDepth 100000 in
set_option maxHeartbeats 4000000 in
theorem rlabels_any (s : ByteArray) (w : World) (hs : s.size ≤ 2147483640) :
    Calls Tryz.prog 122 #[.string s] w fun e w' => ∃ v, e = .returned v ∧ RowL w' v (labelsS (bs s)) ∧ Below w.heap.size w w' := by
  cases hx : Ad.parseS (bs s) with
  | some a =>
    obtain ⟨V, hV, hVa, hP⟩ := rparse_at s hs _ hx
    clear hVa
    have HPa2 : Hid (∀ w, Calls Tryz.prog 73 #[.string s] w fun e w' => e = .returned (.tuple #[.agg (Ad.cA V), .bool true]) ∧ Below w.heap.size w w') := Lib.hid hP
    have HQ : Hid (labelsS (bs s) = [bs s]) := Lib.hid (by unfold labelsS; rw [hx]; rfl)
    clear hP hx
    go_enter Tryz.func122, Tryz.ntmps122
    go_wp2_with fail
    refine (HPa2.out _).mono ?_
    rintro e w2 ⟨rfl, hb⟩
    have HB1 := Lib.hid hb
    clear hb HPa2
    go_upto_region 2 with (refine St.go_st 48 (Blk.new _ _ _) Ad.info16 rfl (by rw [Ad.cA_size, hV]) (Ad.cA_one _) rfl rfl rfl rfl ?_)
    obtain ⟨_, hbl⟩ := adr_new w2 V
    have HB2 := Lib.hid (HB1.out.trans (hbl.mono HB1.out.size))
    clear hbl HB1
    generalize (w2.alloc (.cells #[Value.int .u8 0, Value.int .u8 0, Value.int .u8 0, Value.int .u8 0, Value.int .u8 0, Value.int .u8 0, Value.int .u8 0, Value.int .u8 0, Value.int .u8 0, Value.int .u8 0, Value.int .u8 0, Value.int .u8 0, Value.int .u8 0, Value.int .u8 0, Value.int .u8 0, Value.int .u8 0] 48)).setRow w2.heap.size (Ad.cA V) = w3 at *
    go_wp2_with fail
    go_ret
    refine ⟨_, rfl, ?_, HB2.out.alloc HB2.out.size _⟩
    rw [HQ.out]
    exact RowL.one s (Below.refl _ _)
  | none =>
    obtain ⟨V, hV, hVa, hP⟩ := rparse_at s hs _ hx
    clear hVa
    have HPa2 : Hid (∀ w, Calls Tryz.prog 73 #[.string s] w fun e w' => e = .returned (.tuple #[.agg (Ad.cA V), .bool false]) ∧ Below w.heap.size w w') := Lib.hid hP
    have HCu : Hid (∀ w, Calls Tryz.prog 149 #[.string s, .int .u8 46] w fun e w' => ∃ v, e = .returned v ∧ Ad.OwnR w' w.heap.size v (splitS 46 (bs s)) ∧ Below w.heap.size w w') := Lib.hid (fun w => Ad.rcut_any s 46 w (by omega))
    have HQ : Hid (labelsS (bs s) = (splitS 46 (bs s)).reverse) := Lib.hid (by unfold labelsS; rw [hx]; rfl)
    have hlen := spl_len 46 (bs s)
    have hne := splitS_ne 46 (bs s)
    rw [bs_length] at hlen
    obtain ⟨L, hL⟩ : ∃ L, splitS 46 (bs s) = L := ⟨_, rfl⟩
    obtain ⟨n, hn⟩ : ∃ n, L.length = n := ⟨_, rfl⟩
    rw [hL] at HCu HQ hlen hne
    rw [hn] at hlen
    rw [HQ.out]
    have hn9 : n ≤ 2147483641 := by omega
    have HN := Lib.hid hn
    have HNe := Lib.hid hne
    clear hP hx HQ hlen hne hL hn hs
    go_enter Tryz.func122, Tryz.ntmps122
    go_wp2_with fail
    refine (HPa2.out _).mono ?_
    rintro e w2 ⟨rfl, hb⟩
    have HB1 := Lib.hid hb
    clear hb HPa2
    go_upto_region 2 with (refine St.go_st 48 (Blk.new _ _ _) Ad.info16 rfl (by rw [Ad.cA_size, hV]) (Ad.cA_one _) rfl rfl rfl rfl ?_)
    obtain ⟨_, hbl⟩ := adr_new w2 V
    have HB2 := Lib.hid (HB1.out.trans (hbl.mono HB1.out.size))
    clear hbl HB1
    generalize (w2.alloc (.cells #[Value.int .u8 0, Value.int .u8 0, Value.int .u8 0, Value.int .u8 0, Value.int .u8 0, Value.int .u8 0, Value.int .u8 0, Value.int .u8 0, Value.int .u8 0, Value.int .u8 0, Value.int .u8 0, Value.int .u8 0, Value.int .u8 0, Value.int .u8 0, Value.int .u8 0, Value.int .u8 0] 48)).setRow w2.heap.size (Ad.cA V) = w3 at *
    go_wp2_with fail
    refine (HCu.out _).mono ?_
    rintro e w4 ⟨v, rfl, hr, hb⟩
    obtain ⟨g, c, rfl, hc, hg, hcell⟩ := OwnR.rowL hr HNe.out
    rw [HN.out]
    have HB4 := Lib.hid (HB2.out.trans (hb.mono HB2.out.size))
    have HC := Lib.hid hcell
    clear hb hcell hc HCu hr HB2
    have O0 : Hid (Ad.OwnR w4 w4.heap.size (.slice none 0 0) (L.drop n).reverse) := Lib.hid (by
      rw [List.drop_of_length_le (by rw [HN.out]; exact Nat.le_refl _)]
      exact ⟨by simp, .inl ⟨rfl, by simp⟩⟩)
    go_wp2_with fail
    go_loopw [6, 7] (fun v i wr => ∃ m : Nat, m ≤ n ∧ i = .int .i64 ((m : Int) - 1) ∧ Hid (Ad.OwnR wr w4.heap.size v (L.drop m).reverse) ∧ Hid (Below w4.heap.size w4 wr)) (fun _ i _ => (intOf i + 1).toNat)
    case atStart => exact ⟨n, Nat.le_refl _, rfl, O0, Lib.hid (Below.refl _ _)⟩
    case round =>
      obtain ⟨m, hm, rfl, HO, HBk⟩ := hrel
      cases m with
      | zero =>
        have i0 : decide ((((0 : Nat) : Int) - 1) ≥ 0) = false := by decide
        go_wp2_with fail
        go_ret
        refine ⟨_, rfl, ?_, HB4.out.trans (HBk.out.mono HB4.out.size)⟩
        have h := HO.out
        rw [List.drop_zero] at h
        exact OwnR.rowL h (by simpa using HNe.out)
      | succ j =>
        have hjl : j < n := by omega
        rw [show (((j + 1 : Nat) : Int) - 1) = (j : Int) by omega]
        obtain ⟨p, hp⟩ : ∃ p, L[j]? = some p := ⟨_, List.getElem?_eq_getElem (by rw [HN.out]; exact hjl)⟩
        have hdr : L.drop j = p :: L.drop (j + 1) := by
          rw [List.drop_eq_getElem_cons (by rw [HN.out]; exact hjl)]
          congr 1
          exact (List.getElem_eq_iff _).2 hp
        have HD : Hid ((L.drop j).reverse = (L.drop (j + 1)).reverse ++ [p]) := Lib.hid (by rw [hdr, List.reverse_cons])
        have hll : ((L.drop (j + 1)).reverse).length ≤ n := by rw [List.length_reverse, List.length_drop, HN.out]; omega
        obtain ⟨I, hI⟩ : ∃ I, (L.drop (j + 1)).reverse = I := ⟨_, rfl⟩
        rw [hI] at HO HD hll
        obtain ⟨P, hP⟩ : ∃ P, str p = P := ⟨_, rfl⟩
        have hcl : wr.cell? ⟨g, j, none⟩ = some (.string P) := by rw [HBk.out.cell (p := ⟨g, j, none⟩) hg, ← hP]; exact HC.out j p hp
        have HP := Lib.hid hP
        have hsz := HBk.out.size
        have HA := Lib.hid (HO.out.below ((Below.refl wr.heap.size wr).alloc (Nat.le_refl _) (.cells #[Value.string P] 9)) (Nat.le_refl _))
        clear hp hdr hI hP
        go_wp2_with (refine Ad.wpList_appR rfl _ _ rfl w4.heap.size _ _ rfl (by exact HA.out) _ _ p rfl (by rw [HP.out]; exact (Blk.new wr _ _).cell 0) (by omega) (by simp; omega) ?_; intro v2 w2 ho2 hb2)
        go_roundw
        case rel => exact ⟨j, by omega, by go_num, Lib.hid (by rw [HD.out]; exact ho2.out), Lib.hid (HBk.out.trans (((Below.refl _ _).alloc (Nat.le_refl _) _).mono hsz |>.trans hb2.out))⟩
        case measure => first | (simp [intOf]; done) | (simp [intOf]; omega)
end Go.Proofs.YtlpondbcnfaggaaGreatDoor.Nm

/-
  Contracts of hagioscoperef18's named, cut, Matches, weight over this seat's translation: they answer what nameB, cutP, matchB and weightP say.
-/
namespace Go.Proofs.YtlpondbcnfaggaaGreatDoor.Tr
open Go.RowKit Go.Proofs.YtlpondbcnfaggaaGreatDoor.Wd Go.Proofs.YtlpondbcnfaggaaGreatDoor.Asc Go.Proofs.YtlpondbcnfaggaaGreatDoor.Tx Go.Proofs.YtlpondbcnfaggaaGreatDoor.St

theorem is_lit (S : ByteArray) (l : List UInt8) : (S.toList == l) = decide (bs S = l) := by
  have h := str_beq (bs S) l
  rw [str_bs] at h
  rwa [show (str l).toList = l from by rw [Lib.toList_data]] at h
theorem is_str (S T : ByteArray) : (S.toList == T.toList) = decide (bs S = bs T) := by
  have h := str_beq (bs S) (bs T)
  rwa [str_bs, str_bs] at h
set_option linter.unusedSimpArgs false in
set_option maxRecDepth 100000 in
set_option maxHeartbeats 4000000 in
theorem rnamed_any (s : ByteArray) (w : World) (hs : s.size ≤ 2147483640) :
    Calls Tryz.prog 74 #[.string s] w fun e w' => e = .returned (.bool (nameB (bs s))) ∧ Below w.heap.size w w' := by
  obtain ⟨X, E, hX⟩ : ∃ (X : ByteArray) (E : Int), Nm.normalS (bs s) = (bs X, E) := ⟨str (Nm.normalS (bs s)).1, (Nm.normalS (bs s)).2, rfl⟩
  have HN : Hid (∀ w, Calls Tryz.prog 118 #[.string s] w fun e w' => e = .returned (.tuple #[.string X, .int .i64 E]) ∧ Below w.heap.size w w') := Lib.hid (fun w => by
    have h := Nm.rnorm_any s w hs
    rw [hX] at h
    have e : Nm.resN (bs X, E) = .returned (.tuple #[.string X, .int .i64 E]) := by show Ending.returned (.tuple #[.string (str (bs X)), .int .i64 E]) = _; rw [str_bs]
    rw [e] at h
    exact h)
  have HM : Hid (nameB (bs s) = (decide (E = 0) && decide (bs X = bs s))) := Lib.hid (by
    unfold nameB
    rw [hX, Bool.eq_iff_iff]
    simp [and_comm])
  have hq := is_str X s
  clear hX hs
  go_enter Tryz.func74, Tryz.ntmps74
  go_wp2_with fail
  refine (HN.out _).mono ?_
  rintro e w2 ⟨rfl, hb⟩
  have HB := Lib.hid hb
  clear hb HN
  by_cases hE : E = 0
  · have d1 : decide (E = 0) = true := decide_eq_true hE
    have e1 : (E == 0) = true := by rw [beq_iff_eq]; exact hE
    rw [d1, Bool.true_and] at HM
    cases hd : decide (bs X = bs s)
    · rw [hd] at hq HM
      clear hd hE d1
      go_wp2_with fail
      go_ret
      exact ⟨by rw [HM.out]; rfl, HB.out⟩
    · rw [hd] at hq HM
      clear hd hE d1
      go_wp2_with fail
      go_ret
      exact ⟨by rw [HM.out]; rfl, HB.out⟩
  · have d1 : decide (E = 0) = false := decide_eq_false hE
    have e1 : (E == 0) = false := by rw [beq_eq_false_iff_ne]; exact hE
    rw [d1, Bool.false_and] at HM
    clear hE d1 hq
    go_wp2_with fail
    go_ret
    exact ⟨by rw [HM.out]; rfl, HB.out⟩
/-- what cut answers -/
abbrev resC (q : Nat × List UInt8) : Ending := .returned (.tuple #[.int .i64 (q.1 : Nat), .string (str q.2)])
set_option linter.unusedSimpArgs false in
set_option maxRecDepth 100000 in
set_option maxHeartbeats 8000000 in
theorem rcutp_any (s : ByteArray) (w : World) (hs : s.size ≤ 2147483640) :
    Calls Tryz.prog 37 #[.string s] w fun e w' => e = resC (cutP (bs s)) ∧ Below w.heap.size w w' := by
  have q0 := is_lit s [42]
  by_cases h0 : bs s = [42]
  · rw [decide_eq_true h0] at q0
    have HM : Hid (cutP (bs s) = (0, [])) := Lib.hid (by unfold cutP; rw [if_pos h0])
    clear h0 hs
    go_enter Tryz.func37, Tryz.ntmps37
    go_wp2_with fail
    go_ret2
    exact ⟨by rw [HM.out]; rfl, Below.refl _ _⟩
  rw [decide_eq_false h0] at q0
  by_cases h1 : 2 < (bs s).length ∧ (bs s).take 2 = [42, 46]
  · obtain ⟨h1, h2⟩ := h1
    rw [bs_length] at h1
    have i1 : (2 : Int) < (s.size : Int) := by omega
    have i2 : (2 : Int) ≤ (s.size : Int) := by omega
    have q1 : ((s.extract 0 2).toList == [42, 46]) = true := by rw [is_lit, bs_extract, List.drop_zero, Nat.sub_zero]; exact decide_eq_true h2
    obtain ⟨R, hR⟩ : ∃ R, s.extract 2 s.size = R := ⟨_, rfl⟩
    have hRb : bs R = (bs s).drop 2 := by
      rw [← hR, bs_extract, List.take_of_length_le]
      rw [List.length_drop, bs_length]; omega
    have hRz : R.size ≤ 2147483640 := by
      rw [← bs_length, hRb, List.length_drop, bs_length]; omega
    obtain ⟨o, ho⟩ : ∃ o, Ad.parseS (bs R) = o := ⟨_, rfl⟩
    obtain ⟨V, hV, hVa, hP⟩ := Nm.rparse_at R hRz o ho
    obtain ⟨b, hb⟩ : ∃ b, nameB (bs R) = b := ⟨_, rfl⟩
    have HP := Lib.hid hP
    have HNm : Hid (∀ w, Calls Tryz.prog 74 #[.string R] w fun e w' => e = .returned (.bool b) ∧ Below w.heap.size w w') := Lib.hid (fun w => by rw [← hb]; exact rnamed_any R w hRz)
    have hm : cutP (bs s) = if o.isSome = true ∨ b = false then (3, []) else (1, bs R) := by
      unfold cutP
      rw [if_neg h0, if_pos ⟨by rw [bs_length]; exact h1, h2⟩, ← hRb, ho, hb]
    have HN : Hid (o.isSome = true ∨ b = false → resC (cutP (bs s)) = .returned (.tuple #[.int .i64 3, .string ⟨#[]⟩])) := Lib.hid (fun h => by rw [hm, if_pos h]; rfl)
    have HY : Hid (¬ (o.isSome = true ∨ b = false) → resC (cutP (bs s)) = .returned (.tuple #[.int .i64 1, .string R])) := Lib.hid (fun h => by
      rw [hm, if_neg h]
      show Ending.returned (.tuple #[.int .i64 1, .string (str (bs R))]) = _
      rw [str_bs])
    clear hm
    obtain ⟨k, hk⟩ : ∃ k, o.isSome = k := ⟨_, rfl⟩
    rw [hk] at HP HN HY
    clear hVa ho hP hb h0 h2 hRb hRz hs h1
    clear hk o
    go_enter Tryz.func37, Tryz.ntmps37
    go_wp2_with fail
    refine (HP.out _).mono ?_
    rintro e w2 ⟨rfl, hb2⟩
    have HB1 := Lib.hid hb2
    clear hb2 HP
    go_upto_region 5 with (refine St.go_st 48 (Blk.new _ _ _) Ad.info16 rfl (by rw [Ad.cA_size, hV]) (Ad.cA_one _) rfl rfl rfl rfl ?_)
    obtain ⟨_, hbl⟩ := Nm.adr_new w2 V
    have HB2 := Lib.hid (HB1.out.trans (hbl.mono HB1.out.size))
    clear hbl HB1
    generalize (w2.alloc (.cells #[Value.int .u8 0, Value.int .u8 0, Value.int .u8 0, Value.int .u8 0, Value.int .u8 0, Value.int .u8 0, Value.int .u8 0, Value.int .u8 0, Value.int .u8 0, Value.int .u8 0, Value.int .u8 0, Value.int .u8 0, Value.int .u8 0, Value.int .u8 0, Value.int .u8 0, Value.int .u8 0] 48)).setRow w2.heap.size (Ad.cA V) = w3 at *
    go_wp2_with fail
    refine (HNm.out _).mono ?_
    rintro e w4 ⟨rfl, hb4⟩
    have HB4 := Lib.hid (HB2.out.trans (hb4.mono HB2.out.size))
    clear hb4 HNm HB2
    cases k
    · cases b
      · go_wp2_with fail
        go_ret2
        exact ⟨by rw [HN.out (by simp)]; rfl, HB4.out⟩
      · go_wp2_with fail
        go_quiet (fail)
        all_goals (
          go_wp2_with fail
          go_ret2
          exact ⟨by rw [HY.out (by simp)]; rfl, HB4.out.trans ((below_drewN' _ _).mono HB4.out.size)⟩)
    · go_wp2_with fail
      go_ret2
      exact ⟨by rw [HN.out (by simp)]; rfl, HB4.out⟩
  · obtain ⟨b, hb⟩ : ∃ b, nameB (bs s) = b := ⟨_, rfl⟩
    have HNm : Hid (∀ w, Calls Tryz.prog 74 #[.string s] w fun e w' => e = .returned (.bool b) ∧ Below w.heap.size w w') := Lib.hid (fun w => by rw [← hb]; exact rnamed_any s w hs)
    have hm : cutP (bs s) = if b = true then (2, bs s) else (3, []) := by
      unfold cutP
      rw [if_neg h0, if_neg h1, hb]
    have HN : Hid (b = false → resC (cutP (bs s)) = .returned (.tuple #[.int .i64 3, .string ⟨#[]⟩])) := Lib.hid (fun h => by rw [hm, if_neg (by rw [h]; exact Bool.false_ne_true)]; rfl)
    have HY : Hid (b = true → resC (cutP (bs s)) = .returned (.tuple #[.int .i64 2, .string s])) := Lib.hid (fun h => by
      rw [hm, if_pos h]
      show Ending.returned (.tuple #[.int .i64 2, .string (str (bs s))]) = _
      rw [str_bs])
    clear hm
    by_cases h2 : 2 < s.size
    · have i1 : (2 : Int) < (s.size : Int) := by omega
      have i2 : (2 : Int) ≤ (s.size : Int) := by omega
      have q1 : ((s.extract 0 2).toList == [42, 46]) = false := by
        rw [is_lit, bs_extract, List.drop_zero, Nat.sub_zero]
        exact decide_eq_false fun h => h1 ⟨by rw [bs_length]; exact h2, h⟩
      clear h0 h1 hs hb h2
      go_enter Tryz.func37, Tryz.ntmps37
      go_wp2_with fail
      refine (HNm.out _).mono ?_
      rintro e w2 ⟨rfl, hb2⟩
      have HB := Lib.hid hb2
      clear hb2 HNm
      cases b
      · go_wp2_with fail
        go_ret2
        exact ⟨by rw [HN.out (by simp)]; rfl, HB.out⟩
      · go_wp2_with fail
        go_ret2
        exact ⟨by rw [HY.out (by simp)]; rfl, HB.out⟩
    · have i1 : ¬ (2 : Int) < (s.size : Int) := by omega
      clear h0 h1 hs hb h2
      go_enter Tryz.func37, Tryz.ntmps37
      go_wp2_with fail
      refine (HNm.out _).mono ?_
      rintro e w2 ⟨rfl, hb2⟩
      have HB := Lib.hid hb2
      clear hb2 HNm
      cases b
      · go_wp2_with fail
        go_ret2
        exact ⟨by rw [HN.out (by simp)]; rfl, HB.out⟩
      · go_wp2_with fail
        go_ret2
        exact ⟨by rw [HY.out (by simp)]; rfl, HB.out⟩
end Go.Proofs.YtlpondbcnfaggaaGreatDoor.Tr
