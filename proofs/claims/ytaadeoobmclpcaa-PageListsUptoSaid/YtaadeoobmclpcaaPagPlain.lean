/- A page as a list of bytes: its numbers, its head, whether it is good: plain functions. -/
import Derived.Test.YtaadeoobmclpcaaSumPoly
namespace Go.Proofs.Ytaadeoobmclpcaa

/-- The number of n bytes from q on. -/
def rd (p : List Nat) (q n : Nat) : Nat := num ((p.drop q).take n)
/-- The bytes of n laid over p from q on: k of them. -/
def lay (zs : List Nat) (q n : Nat) : Nat → List Nat
  | 0 => zs
  | k + 1 => (lay zs q n k).set (q + k) (n / 2 ^ (8 * k) % 256)
theorem lay_length (zs : List Nat) (q n k : Nat) : (lay zs q n k).length = zs.length := by
  induction k with
  | zero => rfl
  | succ k ih => simp [lay, ih]
theorem lay_bytes {zs : List Nat} (q n : Nat) (hz : ∀ c ∈ zs, c < 256) : ∀ k, ∀ c ∈ lay zs q n k, c < 256 := by
  intro k
  induction k with
  | zero => exact hz
  | succ k ih =>
    intro c hc
    rw [lay] at hc
    rcases List.mem_or_eq_of_mem_set hc with h | h
    · exact ih c h
    · omega
theorem rd_lt {p : List Nat} (hz : ∀ c ∈ p, c < 256) (q n : Nat) (h : q + n ≤ p.length) : rd p q n < 2 ^ (8 * n) := by
  have := num_lt ((p.drop q).take n) (fun c hc => hz c (List.mem_of_mem_drop (List.mem_of_mem_take hc)))
  rwa [List.length_take, List.length_drop, Nat.min_eq_left (by omega)] at this
/-- Which bytes a cell takes: marked one by one; none, if one is marked already. -/
def markk (T : List Bool) (a : Nat) : Nat → Option (List Bool)
  | 0 => some T
  | j + 1 => match markk T a j with
    | none => none
    | some U => if U.getD (a + j) false then none else some (U.set (a + j) true)
/-- Of the first cells, as many as are asked for. -/
def marks (p : List Nat) (low : Nat) : Nat → Option (List Bool)
  | 0 => some (List.replicate 512 false)
  | i + 1 => match marks p low i with
    | none => none
    | some T => if rd p (26 + 4 * i) 2 < low ∨ 512 < rd p (26 + 4 * i) 2 + rd p (28 + 4 * i) 2 then none else markk T (rd p (26 + 4 * i) 2) (rd p (28 + 4 * i) 2)
theorem markk_length {T U : List Bool} {a : Nat} : ∀ {j : Nat}, markk T a j = some U → U.length = T.length := by
  intro j
  induction j generalizing U with
  | zero => intro h; cases h; rfl
  | succ j ih =>
    intro h
    rw [markk] at h
    split at h
    · cases h
    · rename_i V hV
      split at h
      · cases h
      · cases h
        rw [List.length_set]
        exact ih hV
theorem markk_none {T : List Bool} {a j : Nat} (h : markk T a j = none) : ∀ k, j ≤ k → markk T a k = none := by
  intro k hk
  induction k with
  | zero => obtain rfl : j = 0 := by omega
            exact h
  | succ k ih =>
    by_cases e : j = k + 1
    · rw [← e]; exact h
    · rw [markk, ih (by omega)]
theorem marks_length {p : List Nat} {low : Nat} {T : List Bool} : ∀ {i : Nat}, marks p low i = some T → T.length = 512 := by
  intro i
  induction i generalizing T with
  | zero => intro h; cases h; exact List.length_replicate
  | succ i ih =>
    intro h
    rw [marks] at h
    split at h
    · cases h
    · rename_i U hU
      split at h
      · cases h
      · rw [markk_length h]; exact ih hU
theorem marks_none {p : List Nat} {low j : Nat} (h : marks p low j = none) : ∀ k, j ≤ k → marks p low k = none := by
  intro k hk
  induction k with
  | zero => obtain rfl : j = 0 := by omega
            exact h
  | succ k ih =>
    by_cases e : j = k + 1
    · rw [← e]; exact h
    · rw [marks, ih (by omega)]
/-- Is a page good? -/
def Good (p : List Nat) : Prop := p.length = 512 ∧ p.getD 13 0 = 0 ∧ 26 + 4 * rd p 14 2 ≤ rd p 16 2 ∧ rd p 16 2 ≤ 512 ∧ (marks p (rd p 16 2) (rd p 14 2)).isSome = true
end Go.Proofs.Ytaadeoobmclpcaa
