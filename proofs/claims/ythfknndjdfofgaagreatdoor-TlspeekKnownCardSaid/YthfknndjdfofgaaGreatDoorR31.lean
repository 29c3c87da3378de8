/-
 Texts in plain words: a list of bytes as a string, what stands between signs, the first of a sign, a cut at a sign. No condition.
-/
import Derived.Test.YthfknndjdfofgaaGreatDoorR04
import Derived.Lib.IndexMore
import Derived.Test.YthfknndjdfofgaaGreatDoorR03
import Derived.Test.YthfknndjdfofgaaGreatDoorShelf
import Derived.Lib.AppendIntMem
namespace Go.Proofs.YthfknndjdfofgaaGreatDoor.Tx
open Go Go.Proofs.YthfknndjdfofgaaGreatDoor.Asc

theorem ib_free : ∀ {l : List UInt8} {c : UInt8}, c ∉ l → Lib.indexByte l c = -1
 | [], _, _ => rfl
 | b :: l, c, h => by
   have h1 : (b == c) = false := by rw [beq_eq_false_iff_ne]; rintro rfl; exact h (by simp)
   have h2 : Lib.indexByte l c = -1 := ib_free (fun hm => h (by simp [hm]))
   unfold Lib.indexByte
   rw [h1, h2]
   rfl
end Go.Proofs.YthfknndjdfofgaaGreatDoor.Tx

/-
 What the library's variables hold where a call begins, and what stands of it behind; strings.Cut, Count, HasPrefix and strconv.Itoa so (for seats without package addr).
-/
namespace Go.Proofs.YthfknndjdfofgaaGreatDoor.Tx
open Go.RowKit Go.Proofs.YthfknndjdfofgaaGreatDoor.Wd Go.Proofs.YthfknndjdfofgaaGreatDoor.Asc

structure Env (B : Nat) (w : World) : Prop where
 max : ∃ m, w.cell? ⟨0, 0, none⟩ = some (.int .i64 m)
 tab : Lib.TabBelow Tryz.prog B w "internal/strconv.uint64pow10" .u64 Lib.pow10Tab
 low : 0 < B
 le : B ≤ w.heap.size
theorem below_drewN' (w : World) (n : Nat) : Below w.heap.size w (w.drewN n) := ⟨rfl, rfl, rfl, Nat.le_refl _, fun _ _ => rfl⟩
end Go.Proofs.YthfknndjdfofgaaGreatDoor.Tx
