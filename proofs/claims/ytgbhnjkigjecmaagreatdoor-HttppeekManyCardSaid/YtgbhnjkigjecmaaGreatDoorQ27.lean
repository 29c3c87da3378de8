/-
  Contracts of package name's Normal and Labels over this seat's translation: they answer what normalS and labelsS say.
-/
import Derived.Test.YtgbhnjkigjecmaaGreatDoorQ26
namespace Go.Proofs.YtgbhnjkigjecmaaGreatDoor.Nm
open Go.RowKit Go.Proofs.YtgbhnjkigjecmaaGreatDoor.Wd Go.Proofs.YtgbhnjkigjecmaaGreatDoor.Asc Go.Proofs.YtgbhnjkigjecmaaGreatDoor.Ad

/-- an address in a block of its own -/
theorem adr_new (w : World) (V : List UInt8) :
    Blk ((w.alloc (.cells #[Value.int .u8 0, Value.int .u8 0, Value.int .u8 0, Value.int .u8 0, Value.int .u8 0, Value.int .u8 0, Value.int .u8 0, Value.int .u8 0, Value.int .u8 0, Value.int .u8 0, Value.int .u8 0, Value.int .u8 0, Value.int .u8 0, Value.int .u8 0, Value.int .u8 0, Value.int .u8 0] 72)).setRow w.heap.size (Ad.cA V)) w.heap.size 72 (Ad.cA V) ∧
    Below w.heap.size w ((w.alloc (.cells #[Value.int .u8 0, Value.int .u8 0, Value.int .u8 0, Value.int .u8 0, Value.int .u8 0, Value.int .u8 0, Value.int .u8 0, Value.int .u8 0, Value.int .u8 0, Value.int .u8 0, Value.int .u8 0, Value.int .u8 0, Value.int .u8 0, Value.int .u8 0, Value.int .u8 0, Value.int .u8 0] 72)).setRow w.heap.size (Ad.cA V)) :=
  ⟨St.setRow_blk (Blk.new _ _ _), St.setRow_below ((Below.refl _ _).alloc (Nat.le_refl _) _) (Blk.new _ _ _) (Nat.le_refl _) _⟩
abbrev resN (q : List UInt8 × Int) : Ending := .returned (.tuple #[.string (str q.1), .int .i64 q.2])
theorem is_empty {T : ByteArray} (h : bs T = []) : T.toList.isEmpty = true ∧ (T.toList == (⟨#[]⟩ : ByteArray).toList) = true := by
  rw [Lib.toList_data, Lib.toList_data, show T.data.toList = [] from h]
  exact ⟨rfl, rfl⟩
theorem no_empty {T : ByteArray} (h : bs T ≠ []) : T.toList.isEmpty = false ∧ (T.toList == (⟨#[]⟩ : ByteArray).toList) = false := by
  rw [Lib.toList_data, Lib.toList_data]
  refine ⟨?_, beq_eq_false_iff_ne.2 h⟩
  cases hd : T.data.toList with
  | nil => exact absurd hd h
  | cons _ _ => rfl
theorem parse_at {B : Nat} (s : ByteArray) (hs : s.size < 4294967281) (o : Option (List UInt8)) (hx : Ad.parseS (bs s) = o) : ∃ V : List UInt8, V.length = 16 ∧ (∀ a, o = some a → V = a) ∧
    ∀ w, Ad.Env B w → Calls Tryz.prog 32 #[.string s] w fun e w' => e = .returned (.tuple #[.agg (Ad.cA V), .bool o.isSome]) ∧ Below w.heap.size w w' := by
  have h := fun w hE => Ad.parse_any (B := B) (bs s) w hE (by rw [bs_length]; exact hs)
  unfold Ad.AddrPost at h
  rw [str_bs, hx] at h
  cases o with
  | none => exact ⟨List.replicate 16 0, rfl, fun a e => (by cases e), h⟩
  | some a => exact ⟨a, Ad.parseS_len hx, fun b e => Option.some.inj e, h⟩

set_option linter.unusedSimpArgs false in
set_option maxRecDepth 100000 in
set_option maxHeartbeats 4000000 in
theorem norm_any {B : Nat} (s : ByteArray) (w : World) (hE : Env B w) (hs : s.size < 4294967281) :
    Calls Tryz.prog 18 #[.string s] w fun e w' => e = resN (normalS (bs s)) ∧ Below w.heap.size w w' := by
  have HE := Lib.hid hE
  clear hE
  cases hx : Ad.parseS (bs s) with
  | some a =>
    obtain ⟨V, hV, hVa, hP⟩ := parse_at (B := B) s hs _ hx
    obtain rfl := hVa a rfl
    have HPa2 : Hid (∀ w, Ad.Env B w → Calls Tryz.prog 32 #[.string s] w fun e w' => e = .returned (.tuple #[.agg (Ad.cA V), .bool true]) ∧ Below w.heap.size w w') := Lib.hid hP
    have HPr := Lib.hid (fun w hE => Ad.print_any (B := B) V hV w hE)
    rw [normal_addr hx]
    generalize Ad.ctext V = T at *
    clear hP hx hVa
    go_enter Tryz.func18, Tryz.ntmps18
    go_wp2_with fail
    refine (HPa2.out _ HE.out).mono ?_
    rintro e w2 ⟨rfl, hb⟩
    have HB1 := Lib.hid hb
    clear hb HPa2
    go_upto_region 2 with (refine St.go_st 72 (Blk.new _ _ _) Ad.info16 rfl (by rw [Ad.cA_size, hV]) (Ad.cA_one _) rfl rfl rfl rfl ?_)
    obtain ⟨hk, hbl⟩ := adr_new w2 V
    have HB2 := Lib.hid (HB1.out.trans (hbl.mono HB1.out.size))
    have HK := Lib.hid hk
    clear hk hbl HB1
    generalize (w2.alloc (.cells #[Value.int .u8 0, Value.int .u8 0, Value.int .u8 0, Value.int .u8 0, Value.int .u8 0, Value.int .u8 0, Value.int .u8 0, Value.int .u8 0, Value.int .u8 0, Value.int .u8 0, Value.int .u8 0, Value.int .u8 0, Value.int .u8 0, Value.int .u8 0, Value.int .u8 0, Value.int .u8 0] 72)).setRow w2.heap.size (Ad.cA V) = w3 at *
    generalize w2.heap.size = g at *
    have k3 := HK.out
    go_wp2_with (refine St.go_ld 72 k3 Ad.und16 rfl Ad.info16 (by rw [Ad.cA_size, hV]) rfl rfl rfl ?_)
    refine (HPr.out _ (HE.out.on HB2.out)).mono ?_
    rintro e w4 ⟨rfl, hb4⟩
    have HB4 := Lib.hid (HB2.out.trans (hb4.mono HB2.out.size))
    clear hb4 k3 HK HB2
    go_wp2_with fail
    go_ret2
    exact ⟨rfl, HB4.out⟩
  | none =>
    obtain ⟨V, hV, hVa, hP⟩ := parse_at (B := B) s hs _ hx
    clear hVa
    have HPa2 : Hid (∀ w, Ad.Env B w → Calls Tryz.prog 32 #[.string s] w fun e w' => e = .returned (.tuple #[.agg (Ad.cA V), .bool false]) ∧ Below w.heap.size w w') := Lib.hid hP
    have HL := Lib.hid (fun w => lower_any s w)
    obtain ⟨l, hl⟩ : ∃ l, lowS s = l := ⟨_, rfl⟩
    have hlb : bs l = (bs s).map lowB := by rw [← hl]; rfl
    have hlz : l.size = s.size := by rw [← hl, low_size]
    rw [hl] at HL
    have HT := Lib.hid (fun w => dot_any l w (by omega))
    obtain ⟨X, hX⟩ : ∃ X, str (trimS (bs l)) = X := ⟨_, rfl⟩
    have hXb : bs X = trimS (bs l) := by rw [← hX]; rfl
    have hXz : X.size ≤ s.size := by
      rw [← hlz, ← bs_length, ← bs_length, hXb]
      unfold trimS
      split
      · rw [List.length_dropLast]; omega
      · exact Nat.le_refl _
    rw [hX] at HT
    rw [normal_name hx, name_code, ← hlb, ← hXb, bs_length]
    have HI := Lib.hid (fun w hE => isName_any (B := B) X w hE (by omega))
    clear hP hx hl hlb hlz hX hXb
    by_cases h0 : bs X = []
    · obtain ⟨e1, e2⟩ := is_empty h0
      rw [if_pos h0]
      clear h0 HI
      go_enter Tryz.func18, Tryz.ntmps18
      go_wp2_with fail
      refine (HPa2.out _ HE.out).mono ?_
      rintro e w2 ⟨rfl, hb⟩
      have HB1 := Lib.hid hb
      clear hb HPa2
      go_upto_region 2 with (refine St.go_st 72 (Blk.new _ _ _) Ad.info16 rfl (by rw [Ad.cA_size, hV]) (Ad.cA_one _) rfl rfl rfl rfl ?_)
      obtain ⟨_, hbl⟩ := adr_new w2 V
      have HB2 := Lib.hid (HB1.out.trans (hbl.mono HB1.out.size))
      clear hbl HB1
      generalize (w2.alloc (.cells #[Value.int .u8 0, Value.int .u8 0, Value.int .u8 0, Value.int .u8 0, Value.int .u8 0, Value.int .u8 0, Value.int .u8 0, Value.int .u8 0, Value.int .u8 0, Value.int .u8 0, Value.int .u8 0, Value.int .u8 0, Value.int .u8 0, Value.int .u8 0, Value.int .u8 0, Value.int .u8 0] 72)).setRow w2.heap.size (Ad.cA V) = w3 at *
      go_wp2_with fail
      refine (HL.out _).mono ?_
      rintro e w4 ⟨rfl, hb⟩
      have HB4 := Lib.hid (HB2.out.trans (hb.mono HB2.out.size))
      clear hb HL HB2
      go_wp2_with fail
      refine (HT.out _).mono ?_
      rintro e w5 ⟨rfl, rfl⟩
      have HB5 := HB4
      clear HT HB4
      go_wp2_with fail
      go_ret2
      exact ⟨rfl, HB5.out⟩
    obtain ⟨e1, e2⟩ := no_empty h0
    rw [if_neg h0]
    by_cases h1 : 253 < X.size
    · have i1 : (253 : Int) < (X.size : Int) := by omega
      rw [if_pos h1]
      clear h0 h1 HI
      go_enter Tryz.func18, Tryz.ntmps18
      go_wp2_with fail
      refine (HPa2.out _ HE.out).mono ?_
      rintro e w2 ⟨rfl, hb⟩
      have HB1 := Lib.hid hb
      clear hb HPa2
      go_upto_region 2 with (refine St.go_st 72 (Blk.new _ _ _) Ad.info16 rfl (by rw [Ad.cA_size, hV]) (Ad.cA_one _) rfl rfl rfl rfl ?_)
      obtain ⟨_, hbl⟩ := adr_new w2 V
      have HB2 := Lib.hid (HB1.out.trans (hbl.mono HB1.out.size))
      clear hbl HB1
      generalize (w2.alloc (.cells #[Value.int .u8 0, Value.int .u8 0, Value.int .u8 0, Value.int .u8 0, Value.int .u8 0, Value.int .u8 0, Value.int .u8 0, Value.int .u8 0, Value.int .u8 0, Value.int .u8 0, Value.int .u8 0, Value.int .u8 0, Value.int .u8 0, Value.int .u8 0, Value.int .u8 0, Value.int .u8 0] 72)).setRow w2.heap.size (Ad.cA V) = w3 at *
      go_wp2_with fail
      refine (HL.out _).mono ?_
      rintro e w4 ⟨rfl, hb⟩
      have HB4 := Lib.hid (HB2.out.trans (hb.mono HB2.out.size))
      clear hb HL HB2
      go_wp2_with fail
      refine (HT.out _).mono ?_
      rintro e w5 ⟨rfl, rfl⟩
      have HB5 := HB4
      clear HT HB4
      go_wp2_with fail
      go_ret2
      exact ⟨rfl, HB5.out⟩
    have i1 : ¬ (253 : Int) < (X.size : Int) := by omega
    rw [if_neg h1]
    cases h2 : isN (bs X)
    · rw [if_pos rfl]
      rw [h2] at HI
      clear h0 h1 h2
      go_enter Tryz.func18, Tryz.ntmps18
      go_wp2_with fail
      refine (HPa2.out _ HE.out).mono ?_
      rintro e w2 ⟨rfl, hb⟩
      have HB1 := Lib.hid hb
      clear hb HPa2
      go_upto_region 2 with (refine St.go_st 72 (Blk.new _ _ _) Ad.info16 rfl (by rw [Ad.cA_size, hV]) (Ad.cA_one _) rfl rfl rfl rfl ?_)
      obtain ⟨_, hbl⟩ := adr_new w2 V
      have HB2 := Lib.hid (HB1.out.trans (hbl.mono HB1.out.size))
      clear hbl HB1
      generalize (w2.alloc (.cells #[Value.int .u8 0, Value.int .u8 0, Value.int .u8 0, Value.int .u8 0, Value.int .u8 0, Value.int .u8 0, Value.int .u8 0, Value.int .u8 0, Value.int .u8 0, Value.int .u8 0, Value.int .u8 0, Value.int .u8 0, Value.int .u8 0, Value.int .u8 0, Value.int .u8 0, Value.int .u8 0] 72)).setRow w2.heap.size (Ad.cA V) = w3 at *
      go_wp2_with fail
      refine (HL.out _).mono ?_
      rintro e w4 ⟨rfl, hb⟩
      have HB4 := Lib.hid (HB2.out.trans (hb.mono HB2.out.size))
      clear hb HL HB2
      go_wp2_with fail
      refine (HT.out _).mono ?_
      rintro e w5 ⟨rfl, rfl⟩
      have HB5 := HB4
      clear HT HB4
      go_wp2_with fail
      refine (HI.out _ (HE.out.on HB5.out)).mono ?_
      rintro e w6 ⟨rfl, hb⟩
      have HB6 := Lib.hid (HB5.out.trans (hb.mono HB5.out.size))
      clear hb
      go_wp2_with fail
      go_ret2
      exact ⟨rfl, HB6.out⟩
    · rw [if_neg (by simp)]
      rw [h2] at HI
      clear h0 h1 h2
      go_enter Tryz.func18, Tryz.ntmps18
      go_wp2_with fail
      refine (HPa2.out _ HE.out).mono ?_
      rintro e w2 ⟨rfl, hb⟩
      have HB1 := Lib.hid hb
      clear hb HPa2
      go_upto_region 2 with (refine St.go_st 72 (Blk.new _ _ _) Ad.info16 rfl (by rw [Ad.cA_size, hV]) (Ad.cA_one _) rfl rfl rfl rfl ?_)
      obtain ⟨_, hbl⟩ := adr_new w2 V
      have HB2 := Lib.hid (HB1.out.trans (hbl.mono HB1.out.size))
      clear hbl HB1
      generalize (w2.alloc (.cells #[Value.int .u8 0, Value.int .u8 0, Value.int .u8 0, Value.int .u8 0, Value.int .u8 0, Value.int .u8 0, Value.int .u8 0, Value.int .u8 0, Value.int .u8 0, Value.int .u8 0, Value.int .u8 0, Value.int .u8 0, Value.int .u8 0, Value.int .u8 0, Value.int .u8 0, Value.int .u8 0] 72)).setRow w2.heap.size (Ad.cA V) = w3 at *
      go_wp2_with fail
      refine (HL.out _).mono ?_
      rintro e w4 ⟨rfl, hb⟩
      have HB4 := Lib.hid (HB2.out.trans (hb.mono HB2.out.size))
      clear hb HL HB2
      go_wp2_with fail
      refine (HT.out _).mono ?_
      rintro e w5 ⟨rfl, rfl⟩
      have HB5 := HB4
      clear HT HB4
      go_wp2_with fail
      refine (HI.out _ (HE.out.on HB5.out)).mono ?_
      rintro e w6 ⟨rfl, hb⟩
      have HB6 := Lib.hid (HB5.out.trans (hb.mono HB5.out.size))
      clear hb
      go_wp2_with fail
      go_ret2
      exact ⟨by show _ = Ending.returned (.tuple #[.string (str (bs X)), .int .i64 0]); rw [str_bs]; rfl, HB6.out⟩

theorem RowL.one {w w' : World} (s : ByteArray) (hb : Below (w.alloc (.cells #[.string s] 9)).heap.size (w.alloc (.cells #[.string s] 9)) w') : RowL w' (.slice (some ⟨w.heap.size, 0, none⟩) 1 1) [bs s] := by
  have h := RowL.new w [bs s]
  rw [show (strs [bs s]).toArray = #[.string s] by simp [strs, str_bs]] at h
  exact h.below hb

end Go.Proofs.YtgbhnjkigjecmaaGreatDoor.Nm
