/-
  Contract of package cidr's Print, out of a contract of package addr's, over this seat's translation.
-/
import Derived.Test.YtdofipjjodijcaaGreatDoorAdPrint4
import Derived.Lib.ItoaLen
namespace Go.Proofs.YtdofipjjodijcaaGreatDoor.Ad
open Go.RowKit Go.Proofs.YtdofipjjodijcaaGreatDoor.Wd Go.Proofs.YtdofipjjodijcaaGreatDoor.Asc

def bitsI (a : List UInt8) (n : Int) : Int := if fourS a = true ∧ 96 ≤ n then n - 96 else n
def cprintS (T : List UInt8) (c : C) : List UInt8 := T ++ ([47] ++ Lib.itoa (bitsI c.a c.n))
theorem text4_len (a : List UInt8) (ha : a.length = 16) : (text4 a).length ≤ 16 := by
  have := rowT_len (lastS a) 4 (by rw [lastS_len ha]; omega)
  unfold text4
  omega
theorem str_cat (a b : List UInt8) : str a ++ str b = str (a ++ b) := by
  apply bs_inj
  show (str a ++ str b).data.toList = _
  rw [ByteArray.data_append]
  simp [bs]

end Go.Proofs.YtdofipjjodijcaaGreatDoor.Ad
