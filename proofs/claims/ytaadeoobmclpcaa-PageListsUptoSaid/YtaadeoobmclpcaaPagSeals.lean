/- What the law of sealed pages walks over. -/
import Derived.Test.YtaadeoobmclpcaaPagMathB
import Derived.Test.YtaadeoobmclpcaaPagAwake
import Derived.Laws.Bits64
namespace Go.Proofs.Ytaadeoobmclpcaa
open Go.ChangeShapes Go.WideShapes Go.ChangeAt Go.RowKit

theorem i64_and4095 (n : Int) : bits .and .i64 n 4095 = (((n % 4096).toNat : Nat) : Int) := by
  have h127 : (BitVec.ofInt 64 4095).toNat = 2 ^ 12 - 1 := by decide
  have key : (BitVec.ofInt 64 n &&& BitVec.ofInt 64 4095).toNat = (n % ((2 ^ 64 : Nat) : Int)).toNat % 2 ^ 12 := by
    rw [BitVec.toNat_and, BitVec.toNat_ofInt, h127, Nat.and_two_pow_sub_one_eq_mod]
  show IntKind.i64.wrap ((BitVec.ofInt 64 n &&& BitVec.ofInt 64 4095).toNat : Nat) = _
  rw [key, IntWalk.i64_in _ (by omega)]
  omega
theorem turn_val {d t : Nat} (hd : d < 256) (ht : t < 8) : bits .xor .u8 (d : Int) ((2 : Int) ^ t % 256) = ((d ^^^ 2 ^ t : Nat) : Int) := by
  have h2 : 2 ^ t < 256 := by
    have : 2 ^ t ≤ 2 ^ 7 := Nat.pow_le_pow_right (by omega) (by omega)
    omega
  have e : (2 : Int) ^ t % 256 = ((2 ^ t : Nat) : Int) := by
    rw [show (2 : Int) ^ t = ((2 ^ t : Nat) : Int) from (Int.natCast_pow 2 t).symm]
    obtain ⟨z, hz⟩ : ∃ z, z = 2 ^ t := ⟨_, rfl⟩
    rw [← hz] at h2 ⊢
    omega
  rw [e]
  exact u8_xor_nat d (2 ^ t) hd h2
/-- What the laws' walks end in. -/
def True' (w : World) (e : Ending) (w' : World) : Prop := e = .returned (.bool true) ∧ Below w.heap.size w w'
attribute [local irreducible] sealed
end Go.Proofs.Ytaadeoobmclpcaa
