/- Pages laid out anew: the walks of the law. -/
import Derived.Test.YtaadeoobmclpcaaPagRelMath
import Derived.Test.YtaadeoobmclpcaaPagCellB
import Derived.Test.YtaadeoobmclpcaaPagReplace
import Derived.Test.YtaadeoobmclpcaaPagAwake
import Derived.Laws.Bits64
namespace Go.Proofs.Ytaadeoobmclpcaa
open Go.ChangeShapes Go.WideShapes Go.ChangeAt Go.RowKit

theorem i64_and511 (n : Int) : bits .and .i64 n 511 = (((n % 512).toNat : Nat) : Int) := by
  have h127 : (BitVec.ofInt 64 511).toNat = 2 ^ 9 - 1 := by decide
  have key : (BitVec.ofInt 64 n &&& BitVec.ofInt 64 511).toNat = (n % ((2 ^ 64 : Nat) : Int)).toNat % 2 ^ 9 := by
    rw [BitVec.toNat_and, BitVec.toNat_ofInt, h127, Nat.and_two_pow_sub_one_eq_mod]
  show IntKind.i64.wrap ((BitVec.ofInt 64 n &&& BitVec.ofInt 64 511).toNat : Nat) = _
  rw [key, IntWalk.i64_in _ (by omega)]
  omega
theorem made_zeros (n : Nat) : (madeCells (Value.cells (.int .u8 0)) (n * 1)).toList = u8s (List.replicate n 0) := by
  rw [show Value.cells (.int .u8 0) = #[.int .u8 0] from rfl, toList_madeCells_one]
  simp only [u8s, List.map_replicate, Nat.mul_one]
  rfl
theorem zeros_bytes (n : Nat) : ∀ c ∈ List.replicate n 0, c < 256 := by
  intro c h
  rw [List.mem_replicate] at h
  omega
theorem cells_next {w w' : World} {g : Nat} {t : TypeId} {cs : Array Value} (h : Cells w g t cs) (hb : Below w.heap.size w w') : Cells w' g t cs := cells_under h hb (Array.getElem?_eq_some_iff.1 h).1
theorem page_len {zs : List Nat} (h : zs.length = 512) : zs.length ≤ maxLen := by rw [h]; unfold maxLen; decide
theorem pushed_bytes {zs cs : List Nat} {H : Hd} {i a : Nat} (hz : ∀ c ∈ zs, c < 256) (hc : ∀ c ∈ cs, c < 256) (hF : ({ H with low := a } : Hd).Fits) : ∀ c ∈ pushed zs H i a cs, c < 256 :=
  wr_bytes (lay_bytes _ _ (lay_bytes _ _ (splice_bytes hz hc _) _) _) hF
theorem insertedH_bytes {zs cs : List Nat} {H : Hd} (hz : ∀ c ∈ zs, c < 256) (hc : ∀ c ∈ cs, c < 256) (hF : H.Fits) (hn : H.count + 1 < 65536) (i : Nat) : ∀ c ∈ insertedH zs H i cs, c < 256 :=
  pushed_bytes (splice_bytes hz (fun c h => hz c (List.mem_of_mem_drop (List.mem_of_mem_take h))) _) hc ⟨hF.1, hF.2.1, hF.2.2.1, hF.2.2.2.1, hF.2.2.2.2.1, hF.2.2.2.2.2.1, hn, by have := hF.2.2.2.2.2.2.2; show H.low - cs.length < 65536; omega⟩
theorem insOf_bytes {zs cs : List Nat} (hz : ∀ c ∈ zs, c < 256) (hg : Good zs) (hc : ∀ c ∈ cs, c < 256) (i : Nat) : ∀ c ∈ insOf zs i cs, c < 256 := by
  have hl := hg.1
  have h1 := hg.2.2.1
  have h2 := hg.2.2.2.1
  have hF := hdOf_fits hz (by omega : 26 ≤ zs.length)
  unfold insOf
  split
  · exact insertedH_bytes hz hc hF (by show rd zs 14 2 + 1 < 65536; omega) i
  · exact insertedH_bytes (relaid_is hz hg).byte hc (hdRel_fits hz hl) (by show rd zs 14 2 + 1 < 65536; omega) i
attribute [local irreducible] relaid insOf str
end Go.Proofs.Ytaadeoobmclpcaa
