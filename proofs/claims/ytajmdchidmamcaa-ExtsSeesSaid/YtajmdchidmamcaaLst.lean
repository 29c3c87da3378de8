/-
  A string's bytes as a list: plain facts, no condition.
-/
import Derived.Test.YtajmdchidmamcaaWords
namespace Go.Proofs.Ytajmdchidmamcaa.Wd
open Go.RowKit

def lst (s : ByteArray) : List UInt8 := s.data.toList
theorem lst_size (s : ByteArray) : (lst s).length = s.size := rfl
theorem lst_inj {a b : ByteArray} (h : lst a = lst b) : a = b := by
  apply ByteArray.ext
  apply Array.ext'
  exact h
theorem lst_app (a b : ByteArray) : lst (a ++ b) = lst a ++ lst b := by
  unfold lst
  rw [ByteArray.data_append]
  simp
theorem lst_mk (l : List UInt8) : lst ⟨l.toArray⟩ = l := by simp [lst]
theorem lst_extract (s : ByteArray) (k : Nat) : lst (s.extract 0 k) = (lst s).take k := by
  unfold lst
  rw [ByteArray.data_extract]
  simp
theorem lst_nil : lst ByteArray.empty = [] := rfl
/-- a string with these bytes -/
def str8 (l : List UInt8) : ByteArray := ⟨l.toArray⟩
theorem lst_str8 (l : List UInt8) : lst (str8 l) = l := lst_mk l
theorem str8_size (l : List UInt8) : (str8 l).size = l.length := rfl
theorem str8_app (a b : List UInt8) : str8 a ++ str8 b = str8 (a ++ b) := lst_inj (by rw [lst_app, lst_str8, lst_str8, lst_str8])
theorem str8_extract (a : List UInt8) (k : Nat) : (str8 a).extract 0 k = str8 (a.take k) := lst_inj (by rw [lst_extract, lst_str8, lst_str8])
end Go.Proofs.Ytajmdchidmamcaa.Wd
