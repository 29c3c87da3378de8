/-
  Contract of package field's Find over this seat's translation: it answers what findS says.
-/
import Derived.Test.YtgpgkfbbpiialaaGreatDoorMFd
import Derived.Test.YtgpgkfbbpiialaaGreatDoorClone
import Derived.IntWalk
import Derived.Deep.Cut
namespace Go.Proofs.YtgpgkfbbpiialaaGreatDoor.Fd
open Go.RowKit Go.Proofs.YtgpgkfbbpiialaaGreatDoor.Wd Go.Proofs.YtgpgkfbbpiialaaGreatDoor.Asc Go.Proofs.YtgpgkfbbpiialaaGreatDoor.Tx Go.Proofs.YtgpgkfbbpiialaaGreatDoor.St

theorem eq_bytes (X Y : ByteArray) : (X.toList == Y.toList) = decide (X = Y) := by
  have := str_beq (bs X) (bs Y)
  rw [str_bs, str_bs] at this
  rw [this]
  by_cases h : X = Y
  · rw [h]; simp
  · rw [decide_eq_false h, decide_eq_false (fun e => h (bs_inj e))]
/-- what Find of both answers -/
def FindP (p : List UInt8 × Nat) (w : World) (e : Ending) (w' : World) : Prop := e = .returned (.tuple #[.string (str p.1), .int .i64 (p.2 : Nat)]) ∧ Below w.heap.size w w'
/-- where a search is: the first k fields -/
structure At (nm : List UInt8) (l : List Fld) (k : Nat) (T : ByteArray) (c : Nat) : Prop where
  is : findS nm (l.take k) = (bs T, c)
  le : c ≤ k
theorem At.start (nm : List UInt8) (l : List Fld) : At nm l 0 ⟨#[]⟩ 0 := ⟨by rw [List.take_zero, find_nil]; rfl, Nat.le_refl _⟩
theorem At.miss {nm : List UInt8} {l : List Fld} {k c : Nat} {T : ByteArray} {f : Fld} (h : At nm l k T c) (hf : l[k]? = some f) (hn : f.name ≠ nm) : At nm l (k + 1) T c :=
  ⟨by rw [take_snoc hf, find_miss hn]; exact h.is, Nat.le_succ_of_le h.le⟩
theorem At.first {nm : List UInt8} {l : List Fld} {k : Nat} {T : ByteArray} {f : Fld} (h : At nm l k T 0) (hf : l[k]? = some f) (hn : f.name = nm) : At nm l (k + 1) (str f.text) 1 :=
  ⟨by rw [take_snoc hf, find_first hn (by rw [h.is])]; rfl, by omega⟩
theorem At.more {nm : List UInt8} {l : List Fld} {k c : Nat} {T : ByteArray} {f : Fld} (h : At nm l k T c) (hf : l[k]? = some f) (hn : f.name = nm) (hc : c ≠ 0) : At nm l (k + 1) T (c + 1) :=
  ⟨by rw [take_snoc hf, find_more hn (by rw [h.is]; exact hc), h.is], by have := h.le; omega⟩
theorem At.fin {nm : List UInt8} {l : List Fld} {k c : Nat} {T : ByteArray} (h : At nm l k T c) (hk : k = l.length) : findS nm l = (bs T, c) := by
  rw [← h.is, hk, List.take_length]
theorem At.size {nm : List UInt8} {l : List Fld} {k c : Nat} {T : ByteArray} {M : Nat} (h : At nm l k T c) (hM : ∀ f ∈ l, f.text.length ≤ M) : T.size ≤ M := by
  have h1 := find_mem (nm := nm) (l := l.take k)
  rw [h.is] at h1
  rcases h1 with h1 | ⟨f, hf, h1⟩
  · have : (bs T).length = 0 := by rw [show bs T = [] from h1]; rfl
    rw [bs_length] at this
    omega
  · have := hM f (List.mem_of_mem_take hf)
    rw [h1] at this
    exact this

set_option maxRecDepth 100000 in
set_option maxHeartbeats 4000000 in
theorem find_at (l : List Fld) (A : Option Addr) (n cap : Nat) (S : ByteArray) (w : World) (hs : SrcF w A l) (hn : l.length = n) (hm : n ≤ 1000000) (hM : (findS ((bs S).map lowB) l).1.length ≤ 140737488355328) :
    Calls Tryz.prog 16 #[.slice A n cap, .string S] w (FindP (findS ((bs S).map lowB) l) w) := by
  obtain ⟨nm, hnm⟩ : ∃ nm, (bs S).map lowB = nm := ⟨_, rfl⟩
  obtain ⟨NM, hNM⟩ : ∃ NM, lowS S = NM := ⟨_, rfl⟩
  have HNM := Lib.hid (show bs NM = nm by rw [← hNM, ← hnm]; rfl)
  have HLo := Lib.hid (lower_any S w)
  rw [hNM] at HLo
  rw [hnm] at hM ⊢
  have HS := Lib.hid hs
  have HN := Lib.hid hn
  have HM := Lib.hid hM
  clear hs hn hM hnm hNM
  go_enter Tryz.func16, Tryz.ntmps16
  go_wp2_with fail
  refine HLo.out.mono ?_
  rintro e w1 ⟨rfl, hb⟩
  have HB1 := Lib.hid hb
  clear hb HLo
  go_wp2_with fail
  go_loopw [6, 7, 14] (fun x6 x7 x14 wr => ∃ (k c : Nat) (T : ByteArray), k ≤ n ∧ x6 = .string T ∧ x7 = .int .i64 (c : Nat) ∧ x14 = .int .i64 (k : Nat) ∧ Hid (At nm l k T c) ∧ Hid (Below w.heap.size w wr)) (fun _ _ x14 _ => n - (intOf x14).toNat)
  case atStart => exact ⟨0, 0, ⟨#[]⟩, Nat.zero_le _, rfl, rfl, rfl, Lib.hid (At.start nm l), HB1⟩
  case round =>
    obtain ⟨k, c, T, hk, rfl, rfl, rfl, HA, HB⟩ := hrel
    have hck := HA.out.le
    by_cases hlt : k < n
    · have hki : (k : Int) < (n : Int) := by omega
      obtain ⟨f, g, o, hf, rfl, hgw, h0, h1⟩ := HS.out.get (k := k) (by rw [HN.out]; exact hlt) HB.out
      have HF := Lib.hid hf
      obtain ⟨X, hX⟩ : ∃ X, str f.name = X := ⟨_, rfl⟩
      obtain ⟨Y, hY⟩ : ∃ Y, str f.text = Y := ⟨_, rfl⟩
      rw [hX] at h0
      rw [hY] at h1
      have HX := Lib.hid (show bs X = f.name by rw [← hX]; rfl)
      have HY := Lib.hid hY
      clear hf hX hY
      go_upto_region 6 with fail
      have HZ1 := Lib.hid (Blk.new wr 27 #[Value.string X, .string Y])
      have hz0 : (wr.alloc (.cells #[Value.string X, .string Y] 27)).cell? ⟨wr.heap.size, 0, none⟩ = some (.string X) := by rw [HZ1.out.cell]; rfl
      have hz1 : (wr.alloc (.cells #[Value.string X, .string Y] 27)).cell? ⟨wr.heap.size, 1, none⟩ = some (.string Y) := by rw [HZ1.out.cell]; rfl
      have HBn := Lib.hid (HB.out.alloc HB.out.size (.cells #[Value.string X, .string Y] 27))
      clear HB h0 h1 HB1
      generalize wr.alloc (.cells #[Value.string X, .string Y] 27) = w2 at *
      generalize wr.heap.size = z at *
      by_cases hXN : X = NM
      · have HQ := Lib.hid (show f.name = nm by rw [← HX.out, hXN]; exact HNM.out)
        have e1 : (X.toList == NM.toList) = true := by rw [eq_bytes, hXN]; simp
        have e2 : (X.toList != NM.toList) = false := by rw [bne, e1]; rfl
        clear hXN
        by_cases hc : c = 0
        · subst hc
          have HA2 := Lib.hid (HA.out.first HF.out HQ.out)
          rw [HY.out] at HA2
          have e3 : (((0 : Nat) : Int) == 0) = true := rfl
          go_wp2_with fail
          go_roundw
          case rel => exact ⟨k + 1, 1, Y, by omega, rfl, rfl, by go_num, HA2, HBn⟩
          case measure => simp [intOf]; omega
        · have HA2 := Lib.hid (HA.out.more HF.out HQ.out hc)
          have e3 : ((c : Int) == 0) = false := by simp; omega
          clear hc
          go_wp2_with fail
          go_roundw
          case rel => exact ⟨k + 1, c + 1, T, by omega, rfl, by go_num, by go_num, HA2, HBn⟩
          case measure => simp [intOf]; omega
      · have HQ := Lib.hid (show f.name ≠ nm by rw [← HX.out, ← HNM.out]; exact fun e => hXN (bs_inj e))
        have e1 : (X.toList == NM.toList) = false := by rw [eq_bytes]; exact decide_eq_false hXN
        have e2 : (X.toList != NM.toList) = true := by rw [bne, e1]; rfl
        have HA2 := Lib.hid (HA.out.miss HF.out HQ.out)
        clear hXN
        go_wp2_with fail
        go_roundw
        case rel => exact ⟨k + 1, c, T, by omega, rfl, rfl, by go_num, HA2, HBn⟩
        case measure => simp [intOf]; omega
    · have HR := Lib.hid (HA.out.fin (by rw [HN.out]; omega))
      have hT : T.size ≤ 140737488355328 := by have h := HM.out; rw [HR.out] at h; exact h
      have hki : ¬ (k : Int) < (n : Int) := by omega
      go_wp2_with fail
      refine (clone_any T wr hT).mono ?_
      rintro e w3 ⟨rfl, hb⟩
      have HB3 := Lib.hid (HB.out.trans (hb.mono HB.out.size))
      clear hb
      go_wp2_with fail
      go_ret2
      rw [HR.out]
      exact ⟨by show Ending.returned (.tuple #[.string T, .int .i64 (c : Nat)]) = .returned (.tuple #[.string (str (bs T)), .int .i64 (c : Nat)]); rw [str_bs], HB3.out⟩
theorem find_any (l : List Fld) (A : Option Addr) (n cap : Nat) (S : ByteArray) (w : World) (hs : SrcF w A l) (hn : l.length = n) (hm : n ≤ 1000000) (hM : ∀ f ∈ l, f.text.length ≤ 140737488355328) :
    Calls Tryz.prog 16 #[.slice A n cap, .string S] w (FindP (findS ((bs S).map lowB) l) w) := by
  refine find_at l A n cap S w hs hn hm ?_
  rcases find_mem (nm := (bs S).map lowB) (l := l) with h | ⟨f, hf, h⟩
  · rw [h]; exact Nat.zero_le _
  · rw [← h]; exact hM f hf
end Go.Proofs.YtgpgkfbbpiialaaGreatDoor.Fd
