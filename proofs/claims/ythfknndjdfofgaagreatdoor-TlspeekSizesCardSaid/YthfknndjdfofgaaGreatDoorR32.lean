/-
 Contracts of hagioscoperef02's lower, Lower, token and Token for the seats of later layers: what they answer is what the contracts of package ascii say.
-/
import Derived.Test.YthfknndjdfofgaaGreatDoorR30
import Derived.Test.YthfknndjdfofgaaGreatDoorR31
import Derived.Laws.Runes
import Derived.WalkMore
import Derived.Lib.OthersKept
import Derived.Lib.IndexAny
namespace Go.Proofs.YthfknndjdfofgaaGreatDoor.Asc
open Go.RowKit Go.Proofs.YthfknndjdfofgaaGreatDoor.Wd

theorem bs_extract (s : ByteArray) (a t : Nat) : bs (s.extract a t) = ((bs s).drop a).take (t - a) := by
 simp [bs, ByteArray.data_extract, Array.toList_extract, List.extract_eq_take_drop]

theorem empty_of (a : ByteArray) (h : a.size = 0) : a = ⟨#[]⟩ := bs_inj (bs_nil a h)
end Go.Proofs.YthfknndjdfofgaaGreatDoor.Asc

/-
 strings.IndexAny over this seat's translation, for a string of whatever bytes, and two signs of ASCII or more: the library's own contract asks for ASCII in both.
-/
namespace Go.Proofs.YthfknndjdfofgaaGreatDoor.Tx
open Go.RowKit Go.Proofs.YthfknndjdfofgaaGreatDoor.Wd Go.Proofs.YthfknndjdfofgaaGreatDoor.Asc Go.Lib

theorem quietR {P : Program} {f : FuncId} {args : Array Value} {w : World} {q n : Nat} {v : Value} (h : Calls P f args (w.drewN (q + n)) fun e w' => e = .returned v ∧ w' = w.drewN (q + n)) :
   Calls P f args (w.drewN (q + n)) fun e w'' => e = .returned v ∧ ∃ m, w'' = w.drewN (q + m) := h.mono fun _ _ ⟨he, hm⟩ => ⟨he, n, hm⟩
def Asci (l : List UInt8) : Prop := ∀ c ∈ l, c.toNat < 128
theorem ib_wide {l : List UInt8} (h : Asci l) {c : UInt8} (hc : 128 ≤ c.toNat) : Lib.indexByte l c = -1 := ib_free (fun hm => by have := h c hm; omega)
theorem asci_cut {s : ByteArray} (h : Asci (bs s)) (a t : Nat) : Asci (bs (s.extract a t)) := fun c hc => by
 rw [bs_extract] at hc
 exact h c (List.mem_of_mem_drop (List.mem_of_mem_take hc))

set_option maxRecDepth 100000 in
set_option maxHeartbeats 4000000 in
theorem irune_err (s : ByteArray) (hs : Asci (bs s)) (w : World) :
   Calls Tryz.prog 155 #[.string s, .int .i32 65533] w fun e w' => e = .returned (.int .i64 (-1)) ∧ Below w.heap.size w w' := by
 have HS := Lib.hid hs
 clear hs
 go_enter Tryz.func155, Tryz.ntmps155
 go_wp2
 go_loopw [5, 6] (fun _ _ w' => ∃ pos, w' = w.iter s pos ∧ pos ≤ s.size) (fun _ _ w' => s.size - w'.iterPos w.heap.size)
 case atStart => exact ⟨0, rfl, Nat.zero_le _⟩
 case round =>
   obtain ⟨pos, rfl, hle⟩ := hrel
   by_cases hp : pos < s.size
   · have ha : (s[pos]'hp).toNat < 128 := HS.out _ (by rw [← bs_get s pos hp]; exact List.getElem_mem _)
     have hnx : ∀ ty, (Instr.next (.pointer (some ⟨w.heap.size, 0, none⟩)) true ty).run Tryz.prog (w.iter s pos) = _ := fun ty => run_next_ascii (P := Tryz.prog) w s pos ty hp ha
     have hb : ((((s[pos]'hp).toNat : Nat) : Int) == 65533) = false := by rw [beq_eq_false_iff_ne]; omega
     go_wp2
     go_roundw
     case rel => exact ⟨pos + 1, rfl, hp⟩
     case measure => simp; omega
   · have hnx := fun ty => run_next_end (P := Tryz.prog) w s pos ty hp
     go_wp2
     go_ret
     exact ⟨rfl, below_iter _ _ _⟩

set_option maxRecDepth 100000 in
set_option maxHeartbeats 8000000 in
theorem irune_wide (s : ByteArray) (hs : Asci (bs s)) (r : Int) (h : 128 ≤ r) (w : World) :
   Calls Tryz.prog 155 #[.string s, .int .i32 r] w fun e w' => e = .returned (.int .i64 (-1)) ∧ Below w.heap.size w w' := by
 by_cases he : r = 65533
 · subst he; exact irune_err s hs w
 have hb1 : (r == 65533) = false := by simpa using he
 have i1 : (0 : Int) ≤ r := by omega
 have i2 : ¬ r < 128 := by omega
 cases hv : Lib.validRune r with
 | false =>
   have HV := Lib.hid hv
   clear hv
   go_enter Tryz.func155, Tryz.ntmps155
   go_wp2_with (go_at_call 190; refine (Tryz.utf8_ValidRune _ _).mono ?_; rintro e w1 ⟨rfl, hw⟩; rw [hw, HV.out])
   go_ret
   exact ⟨rfl, Below.refl _ _⟩
 | true =>
   have hv2 : Utf8.valid r = true := by rw [validRune_eq]; exact hv
   obtain ⟨f1, f2, f3⟩ := encode_facts r hv2 h
   have hcv : ∀ w', (convert 21 9 (.int .i32 r)).run Tryz.prog w' = .ok (.string (Utf8.encode r)) w' := fun w' => run_convert_int_string w' 21 9 .i32 r (by kernel_rfl) Tryz.underlying9
   generalize Utf8.encode r = R at *
   have HV := Lib.hid hv
   have HS := Lib.hid hs
   clear hv hv2 hs he
   obtain ⟨n, hn⟩ : ∃ n, R.size = n + 1 := ⟨R.size - 1, by omega⟩
   have hlt : n < R.size := by omega
   have hi : (R.size : Int) - 1 = (n : Int) := by omega
   have hR : 128 ≤ (R[n]'hlt).toNat := by
     have := f3 (by omega)
     have e : R.size - 1 = n := by omega
     simpa only [e] using this
   have hn3 : n ≤ 3 := by omega
   have HR := Lib.hid hR
   clear f1 f2 f3 hn hR
   go_enter Tryz.func155, Tryz.ntmps155
   go_wp2_with (go_at_call 190; refine (Tryz.utf8_ValidRune _ _).mono ?_; rintro e w1 ⟨rfl, hw⟩; rw [hw, HV.out])
   go_step3
   go_wp2_with fail
   go_loopw [9, 10] (fun i f w' => i = .int .i64 n ∧ f = .int .i64 0 ∧ w = w') (fun _ _ _ => 0)
   case atStart => exact ⟨rfl, rfl, rfl⟩
   case round =>
     obtain ⟨rfl, rfl, rfl⟩ := hrel
     by_cases hp : n < s.size
     · have ha : (s[n]'hp).toNat < 128 := HS.out _ (by rw [← bs_get s n hp]; exact List.getElem_mem _)
       have hne : (((s[n]'hp).toNat : Int) != ((R[n]'hlt).toNat : Int)) = true := by have := HR.out; rw [bne_iff_ne]; omega
       have HK := Lib.hid (fun a b w' => show Calls Tryz.prog 189 #[.string (s.extract a b), .int .u8 ((R[n]'hlt).toNat : Int)] w' (fun e w'' => e = .returned (.int .i64 (-1)) ∧ w'' = w') from
         (Tryz.strings_IndexByte (s.extract a b) ((R[n]'hlt).toNat : Int) w').mono fun e w'' ⟨h1, h2⟩ => ⟨by rw [h1, show Lib.indexByte (s.extract a b).data.toList ((R[n]'hlt).toNat : Int).toNat.toUInt8 = -1 from ib_wide (asci_cut HS.out a b) (by simpa using HR.out)], h2⟩)
       clear hcv
       go_wp2_with fail
       go_step3
       go_wp2_with fail
       go_quiet (fail)
       go_wp2_with fail
       have hw1 : IntKind.i64.wrap ((n : Int) + 1) = (n : Int) + 1 := IntWalk.i64_in _ (by omega)
       have hw2 : ((n : Int) + 1).toNat = n + 1 := by omega
       have hw3 : (0 : Int) ≤ (n : Int) + 1 := by omega
       have hw4 : (n : Int) + 1 ≤ (s.size : Int) := by omega
       go_quiet (first | (go_at_call 189; exact quietR (HK.out _ _ _)))
       go_wp2_with fail
       rw [Exit.noGoto_ret]
       dsimp (zetaDelta := true) only [Exit.inBlock, Exit.then, Exit.noGoto]
       go_ret
       exact ⟨rfl, below_drewN' _ _⟩
     · clear hcv
       go_wp2_with fail
       rw [Exit.noGoto_ret]
       go_ret
       exact ⟨rfl, Below.refl _ _⟩

end Go.Proofs.YthfknndjdfofgaaGreatDoor.Tx
