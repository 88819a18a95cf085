/- A slot that is set: plain facts. -/
import Derived.Test.YtaadeoobmclpcaaPagInsertC
import Derived.Test.YtaadeoobmclpcaaPagHeadsA
namespace Go.Proofs.Ytaadeoobmclpcaa

/-- The page whose i-th slot says x and y. -/
def slotSet (zs : List Nat) (i x y : Nat) : List Nat := lay (lay zs (26 + 4 * i) x 2) (28 + 4 * i) y 2
theorem slotSet_length (zs : List Nat) (i x y : Nat) : (slotSet zs i x y).length = zs.length := by rw [slotSet, lay_length, lay_length]
theorem slotSet_bytes {zs : List Nat} (hz : ∀ c ∈ zs, c < 256) (i x y : Nat) : ∀ c ∈ slotSet zs i x y, c < 256 := lay_bytes _ _ (lay_bytes _ _ hz _) _
theorem slotSet_get (zs : List Nat) (i x y : Nat) (hl : 30 + 4 * i ≤ zs.length) (j : Nat) : (slotSet zs i x y).getD j 0 = if 28 + 4 * i ≤ j ∧ j < 28 + 4 * i + 2 then y / 2 ^ (8 * (j - (28 + 4 * i))) % 256 else if 26 + 4 * i ≤ j ∧ j < 26 + 4 * i + 2 then x / 2 ^ (8 * (j - (26 + 4 * i))) % 256 else zs.getD j 0 := by
  rw [slotSet, lay_get _ _ _ _ (by rw [lay_length]; omega), lay_get _ _ _ _ (by omega)]
theorem slotSet_at {zs : List Nat} (hz : ∀ c ∈ zs, c < 256) (i x y : Nat) (hl : 30 + 4 * i ≤ zs.length) (hx : x < 65536) : rd (slotSet zs i x y) (26 + 4 * i) 2 = x :=
  rd_is (slotSet_bytes hz i x y) _ _ _ (by rw [slotSet_length]; omega) hx (fun j hj => by
    rw [slotSet_get _ _ _ _ hl, if_neg (by omega), if_pos (by omega), show 26 + 4 * i + j - (26 + 4 * i) = j from by omega])
theorem slotSet_size {zs : List Nat} (hz : ∀ c ∈ zs, c < 256) (i x y : Nat) (hl : 30 + 4 * i ≤ zs.length) (hy : y < 65536) : rd (slotSet zs i x y) (28 + 4 * i) 2 = y :=
  rd_is (slotSet_bytes hz i x y) _ _ _ (by rw [slotSet_length]; omega) hy (fun j hj => by
    rw [slotSet_get _ _ _ _ hl, if_pos (by omega), show 28 + 4 * i + j - (28 + 4 * i) = j from by omega])
theorem slotSet_other {zs : List Nat} (i x y : Nat) (hl : 30 + 4 * i ≤ zs.length) (a n : Nat) (h : a + n ≤ 26 + 4 * i ∨ 30 + 4 * i ≤ a) : rd (slotSet zs i x y) a n = rd zs a n :=
  rd_ext (slotSet_length _ _ _ _) _ _ (fun j hj => by rw [slotSet_get _ _ _ _ hl, if_neg (by omega), if_neg (by omega)])
theorem slotSet_sizes_lo {zs : List Nat} (i x y : Nat) (hl : 30 + 4 * i ≤ zs.length) : ∀ k, k ≤ i → sizes (slotSet zs i x y) k = sizes zs k
  | 0, _ => rfl
  | k + 1, h => by rw [sizes, sizes, slotSet_sizes_lo i x y hl k (by omega), slotSet_other i x y hl _ _ (by omega)]
theorem slotSet_sizes {zs : List Nat} (hz : ∀ c ∈ zs, c < 256) (i x y : Nat) (hl : 30 + 4 * i ≤ zs.length) (hy : y < 65536) : ∀ k, i < k → sizes (slotSet zs i x y) k + rd zs (28 + 4 * i) 2 = sizes zs k + y
  | 0, h => by omega
  | k + 1, h => by
    by_cases e : k = i
    · subst e
      rw [sizes, sizes, slotSet_sizes_lo k x y hl k (Nat.le_refl _), slotSet_size hz k x y hl hy]
      omega
    · have := slotSet_sizes hz i x y hl hy k (by omega)
      rw [sizes, sizes, slotSet_other i x y hl _ _ (by omega)]
      omega
/-- A cell's slot set to nothing: the rest fits still. -/
theorem slotSet_fitting {zs : List Nat} (hz : ∀ c ∈ zs, c < 256) (hg : Good zs) (i x : Nat) (hi : i < rd zs 14 2) (hx : x ≤ 512) : Fitting (slotSet zs i x 0) (rd zs 14 2) := by
  have hf := good_fitting hg
  have hl := hg.1
  have h1 := hf.1
  have hil : 30 + 4 * i ≤ zs.length := by omega
  have hs := slotSet_sizes hz i x 0 hil (by omega) _ hi
  refine ⟨by omega, fun k hk => ?_⟩
  by_cases e : k = i
  · subst e
    rw [slotSet_at hz k x 0 hil (by omega), slotSet_size hz k x 0 hil (by omega)]
    exact hx
  · rw [slotSet_other i x 0 hil _ _ (by omega), slotSet_other i x 0 hil _ _ (by omega)]
    exact hf.2 k hk
theorem slotSet_count {zs : List Nat} (i x y : Nat) (hl : 30 + 4 * i ≤ zs.length) : rd (slotSet zs i x y) 14 2 = rd zs 14 2 := slotSet_other i x y hl _ _ (by omega)
end Go.Proofs.Ytaadeoobmclpcaa
