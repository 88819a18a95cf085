/- What Put laid is what Get reads; Put where it refuses: small facts for SumKept. -/
import Derived.Test.YtflepcoiidaekaaDoorSumText
namespace Go.Proofs.YtflepcoiidaekaaDoor
open Go.ChangeShapes Go.WideShapes Go.ChangeAt Go.RowKit

theorem lay_get (zs : List Nat) (q n : Nat) : ∀ k, q + k ≤ zs.length → ∀ j, j < k → (lay zs q n k)[q + j]? = some (n / 2 ^ (8 * j) % 256) := by
  intro k
  induction k with
  | zero => intro _ j hj; omega
  | succ k ih =>
    intro hk j hj
    rw [lay, List.getElem?_set]
    by_cases h : j = k
    · subst h
      rw [if_pos rfl, if_pos (by rw [lay_length]; omega)]
    · rw [if_neg (by omega)]
      exact ih (by omega) j (by omega)
theorem lay_take (zs : List Nat) (q n k : Nat) (h : q + k ≤ zs.length) : ((lay zs q n k).drop q).take k = bytesOf n k := by
  apply List.ext_getElem?
  intro j
  by_cases hj : j < k
  · rw [List.getElem?_take, if_pos hj, List.getElem?_drop, lay_get zs q n k h j hj]
    simp [bytesOf, hj]
  · rw [List.getElem?_eq_none (by simp; omega), List.getElem?_eq_none (by rw [bytesOf_length]; omega)]
theorem num_bytesOf (n : Nat) : ∀ k, num (bytesOf n k) = n % 2 ^ (8 * k) := by
  intro k
  induction k with
  | zero => simp [bytesOf, num, Nat.mod_one]
  | succ k ih =>
    rw [bytesOf_succ, num_snoc, ih, bytesOf_length, show 8 * (k + 1) = 8 * k + 8 from by omega, Nat.pow_add, Nat.mod_mul, Nat.mul_comm (2 ^ (8 * k))]
theorem num_lay (zs : List Nat) (q n k : Nat) (h : q + k ≤ zs.length) (hn : n < 2 ^ (8 * k)) : num (((lay zs q n k).drop q).take k) = n := by
  rw [lay_take zs q n k h, num_bytesOf, Nat.mod_eq_of_lt hn]

/-- Where Put lays nothing. -/
def PutErr (len : Nat) (p size : Int) (n : Nat) : Prop := ¬ ((size = 1 ∨ size = 2 ∨ size = 4 ∨ size = 8) ∧ 0 ≤ p ∧ p + size ≤ len) ∨ (0 ≤ p ∧ p + size ≤ len ∧ (size = 1 ∧ 256 ≤ n ∨ size = 2 ∧ 65536 ≤ n ∨ size = 4 ∧ 4294967296 ≤ n))
theorem put_err (len : Nat) (p size : Int) (n : Nat) (hm : len ≤ maxLen) (h : PutErr len p size n) : ∃ E : Int, (E != 0) = true ∧ ∀ (a : Option Addr) (cap : Nat) (w : World),
    Calls Tryd.prog 9 #[.slice a len cap, .int .i64 p, .int .i64 size, .int .u64 (n : Int)] w fun e w' => e = .returned (.tuple #[.slice none 0 0, .int .i64 E]) ∧ w = w' := by
  rcases h with h | ⟨h0, h1, h2⟩
  · exact ⟨1, by decide, fun a cap w => put_no a len cap p size n w hm h⟩
  · exact ⟨2, by decide, fun a cap w => put_big a len cap p size n w hm h2 h0 h1⟩
theorem own_snoc {w : World} {B n : Nat} {v : Value} {l : List Nat} {c : Nat} {x : Int} (hx : x = (c : Int)) (h : w.ownsRow B 5 1 v n (u8s l ++ [.int .u8 x])) : w.ownsRow B 5 1 v n (u8s (l ++ [c])) := by
  rw [show u8s (l ++ [c]) = u8s l ++ [.int .u8 x] from by rw [hx]; simp [u8s]]
  exact h
/-- A row with one byte more reads as the bytes ahead. -/
theorem row_bytes' {w : World} {B g c : Nat} {l : List Nat} {x : Nat} (h : w.ownsRow B 5 1 (.slice (some ⟨g, 0, none⟩) (l.length + 1) c) (l.length + 1) (u8s (l ++ [x]))) (hz : ∀ c ∈ l, c < 256) (hm : l.length ≤ maxLen) : BytesAt w (some ⟨g, 0, none⟩) l :=
  ⟨hz, hm, fun j hj => ⟨g, 0, rfl, by
    rw [Nat.zero_add, h.cellAt j (by omega)]
    rw [u8s, List.map_append, List.getElem?_append_left (by simpa using hj)]
    simp [hj]⟩⟩
theorem row_last {w : World} {B g c : Nat} {l : List Nat} {x : Nat} (h : w.ownsRow B 5 1 (.slice (some ⟨g, 0, none⟩) (l.length + 1) c) (l.length + 1) (u8s (l ++ [x]))) : w.cell? ⟨g, l.length, none⟩ = some (.int .u8 (x : Int)) := by
  rw [h.cellAt l.length (by omega)]
  simp [u8s]
end Go.Proofs.YtflepcoiidaekaaDoor
