/- The document's own number out of bytes: a contract. -/
import Derived.Test.YtaadeoobmclpcaaPagFit
namespace Go.Proofs.Ytaadeoobmclpcaa
open Go.ChangeShapes Go.WideShapes Go.ChangeAt Go.RowKit

theorem num_drop (l : List Nat) (k : Nat) (h : k < l.length) : num (l.drop k) = l[k] + 256 * num (l.drop (k + 1)) := by
  rw [List.drop_eq_getElem_cons h]; rfl
theorem orshl8 {r c : Nat} (hr : r < 2 ^ 56) (hc : c < 256) : bits .or .u64 ((r * 256 : Nat) : Int) (c : Int) = ((c + 256 * r : Nat) : Int) := by
  rw [u64_or_nat _ _ (by omega) (by omega)]
  congr 1
  have := Nat.shiftLeft_add_eq_or_of_lt (b := c) (i := 8) (by omega) r
  rw [Nat.shiftLeft_eq, show (2 : Nat) ^ 8 = 256 from rfl] at this
  omega
end Go.Proofs.Ytaadeoobmclpcaa
