/- The register as a map of numbers: linear, and one to one below 2 to the 32nd: so a row of at most 32 bits that are turned is told. -/
import Derived.Test.YteplapigkofgaaaDoorSumPlain
namespace Go.Proofs.YteplapigkofgaaaDoor

def P : Nat := 3988292384
theorem shr1 (x : Nat) : x >>> 1 = x / 2 := by rw [Nat.shiftRight_eq_div_pow]
/-- One bit's step, of whatever number. -/
def f (x : Nat) : Nat := (x >>> 1) ^^^ (if x.testBit 0 then P else 0)
def fk : Nat → Nat → Nat
  | 0, x => x
  | k + 1, x => fk k (f x)
theorem xor_left (a b c : Nat) : a ^^^ (b ^^^ c) = b ^^^ (a ^^^ c) := by rw [← Nat.xor_assoc, Nat.xor_comm a b, Nat.xor_assoc]
theorem xor_cancel (a b : Nat) : a ^^^ (a ^^^ b) = b := by rw [← Nat.xor_assoc, Nat.xor_self, Nat.zero_xor]
theorem f_xor (x y : Nat) : f (x ^^^ y) = f x ^^^ f y := by
  unfold f
  rw [Nat.shiftRight_xor_distrib, Nat.testBit_xor]
  cases hx : x.testBit 0 <;> cases hy : y.testBit 0 <;> simp [Nat.xor_comm, xor_left, xor_cancel]
theorem fk_xor (k : Nat) : ∀ x y, fk k (x ^^^ y) = fk k x ^^^ fk k y := by
  induction k with
  | zero => intro x y; rfl
  | succ k ih => intro x y; rw [fk, f_xor, ih]; rfl
theorem f_double (y : Nat) : f (2 * y) = y := by
  unfold f
  have h : (2 * y).testBit 0 = false := by simp [Nat.testBit_zero]
  rw [h, shr1]
  simp
theorem fk_shift (k : Nat) : ∀ y, fk k (2 ^ k * y) = y := by
  induction k with
  | zero => intro y; simp [fk]
  | succ k ih =>
    intro y
    rw [fk, Nat.pow_succ, show 2 ^ k * 2 * y = 2 * (2 ^ k * y) from by rw [Nat.mul_comm (2 ^ k) 2, Nat.mul_assoc], f_double, ih]
theorem fk_add (j k : Nat) : ∀ x, fk (j + k) x = fk k (fk j x) := by
  induction j with
  | zero => intro x; simp [fk]
  | succ j ih => intro x; rw [Nat.succ_add, fk, ih]; rfl
theorem f_zero : f 0 = 0 := by decide
theorem f_lt {x : Nat} (h : x < 4294967296) : f x < 4294967296 := by
  unfold f
  refine Nat.xor_lt_two_pow (n := 32) ?_ ?_
  · rw [shr1]; omega
  · unfold P; split <;> decide
theorem f_eq_zero {x : Nat} (h : x < 4294967296) (h0 : f x = 0) : x = 0 := by
  unfold f at h0
  rw [shr1] at h0
  cases hb : x.testBit 0 with
  | false =>
    rw [hb] at h0
    simp at h0
    rw [Nat.testBit_zero] at hb
    simp at hb
    omega
  | true =>
    rw [hb] at h0
    simp only [if_true] at h0
    have h1 : x / 2 = P := by
      have := congrArg (fun z => z ^^^ P) h0
      simpa [Nat.xor_assoc] using this
    unfold P at h1
    omega
theorem fk_eq_zero (k : Nat) : ∀ x, x < 4294967296 → fk k x = 0 → x = 0 := by
  induction k with
  | zero => intro x _ h; exact h
  | succ k ih => intro x hx h; exact f_eq_zero hx (ih _ (f_lt hx) h)
theorem add_xor {b i : Nat} (a : Nat) (h : b < 2 ^ i) : b + 2 ^ i * a = b ^^^ (2 ^ i * a) := by
  apply Nat.eq_of_testBit_eq
  intro j
  rw [Nat.add_comm, Nat.testBit_two_pow_mul_add _ h, Nat.testBit_xor, Nat.testBit_two_pow_mul]
  by_cases hj : j < i
  · have : ¬ i ≤ j := by omega
    simp [hj, this]
  · have hb : b.testBit j = false := Nat.testBit_lt_two_pow (Nat.lt_of_lt_of_le h (Nat.pow_le_pow_right (by omega) (by omega)))
    have : i ≤ j := by omega
    simp [hj, this, hb]
theorem mul_xor (i a b : Nat) : 2 ^ i * (a ^^^ b) = 2 ^ i * a ^^^ 2 ^ i * b := by
  have h := Nat.shiftLeft_xor_distrib (a := a) (b := b) (i := i)
  simp only [Nat.shiftLeft_eq] at h
  rw [Nat.mul_comm, h, Nat.mul_comm a, Nat.mul_comm b]
theorem tab_fk : ∀ t : Fin 16, tab.getD t.val 0 = fk 4 t.val := by decide
theorem nib_fk (x : Nat) : nib x = fk 4 x := by
  have h := add_xor (i := 4) (b := x % 16) (x / 16) (by omega)
  have hx : x % 16 + 2 ^ 4 * (x / 16) = x := by omega
  rw [hx] at h
  rw [h, fk_xor, fk_shift, nib]
  have h2 := tab_fk ⟨x % 16, by omega⟩
  simp only at h2
  rw [← h]
  rw [h2, Nat.xor_comm]
theorem stp_fk (r c : Nat) : stp r c = fk 8 (r ^^^ c) := by
  rw [stp, nib_fk, nib_fk, ← fk_add]
theorem num_cons (c : Nat) (l : List Nat) (hc : c < 256) : num (c :: l) = c ^^^ 2 ^ 8 * num l := by
  rw [num, show 256 * num l = 2 ^ 8 * num l from rfl, add_xor (i := 8) _ hc]
theorem crc_fk : ∀ (l : List Nat) (r : Nat), (∀ c ∈ l, c < 256) → crc r l = fk (8 * l.length) (r ^^^ num l) := by
  intro l
  induction l with
  | nil => intro r _; simp [crc, num, fk]
  | cons c l ih =>
    intro r h
    have h1 := ih (stp r c) (fun c hc => h c (by simp [hc]))
    rw [show crc r (c :: l) = crc (stp r c) l from rfl, h1, num_cons c l (h c (by simp)), List.length_cons, show 8 * (l.length + 1) = 8 + 8 * l.length from by omega, fk_add, ← Nat.xor_assoc, fk_xor 8, fk_shift, stp_fk]
theorem num_inj : ∀ (l m : List Nat), l.length = m.length → (∀ c ∈ l, c < 256) → (∀ c ∈ m, c < 256) → num l = num m → l = m := by
  intro l
  induction l with
  | nil => intro m h _ _ _; exact (List.eq_nil_of_length_eq_zero h.symm).symm
  | cons c l ih =>
    intro m h hl hm e
    cases m with
    | nil => simp at h
    | cons d m =>
      have h1 := hl c (by simp)
      have h2 := hm d (by simp)
      simp only [num] at e
      have hcd : c = d := by omega
      subst hcd
      rw [ih m (by simpa using h) (fun c hc => hl c (by simp [hc])) (fun c hc => hm c (by simp [hc])) (by omega)]
theorem crc_tells {l m : List Nat} {r k d : Nat} (hlen : l.length = m.length) (hl : ∀ c ∈ l, c < 256) (hm : ∀ c ∈ m, c < 256) (hd : d < 4294967296) (hk : k ≤ 8 * l.length) (hx : num m = num l ^^^ 2 ^ k * d) (h : crc r l = crc r m) : l = m := by
  rw [crc_fk l r hl, crc_fk m r hm, ← hlen, hx, ← Nat.xor_assoc, fk_xor _ (r ^^^ num l)] at h
  have h0 : fk (8 * l.length) (2 ^ k * d) = 0 := by
    have := congrArg (fun z => fk (8 * l.length) (r ^^^ num l) ^^^ z) h
    simp only [Nat.xor_self, xor_cancel] at this
    exact this.symm
  rw [show 8 * l.length = k + (8 * l.length - k) from by omega, fk_add, fk_shift] at h0
  have := fk_eq_zero _ _ hd h0
  subst this
  refine num_inj l m hlen hl hm ?_
  rw [hx]; simp
theorem more_tells {l m : List Nat} {k d : Nat} (hlen : l.length = m.length) (hl : ∀ c ∈ l, c < 256) (hm : ∀ c ∈ m, c < 256) (hd : d < 4294967296) (hk : k ≤ 8 * l.length) (hx : num m = num l ^^^ 2 ^ k * d) (s : Nat) : more s l = more s m ↔ l = m := by
  constructor
  · intro h
    unfold more at h
    have := congrArg (fun z => 4294967295 ^^^ z) h
    simp only [Nat.xor_comm _ 4294967295, xor_cancel] at this
    exact crc_tells hlen hl hm hd hk hx this
  · rintro rfl; rfl
theorem num_set : ∀ (l : List Nat) (j t : Nat) (hj : j < l.length), (∀ c ∈ l, c < 256) → t < 8 → num (l.set j (l[j] ^^^ 2 ^ t)) = num l ^^^ 2 ^ (8 * j + t) := by
  intro l
  induction l with
  | nil => intro j t hj; simp at hj
  | cons c l ih =>
    intro j t hj h ht
    have hc := h c (by simp)
    have h2 : 2 ^ t < 256 := by
      have : 2 ^ t ≤ 2 ^ 7 := Nat.pow_le_pow_right (by omega) (by omega)
      omega
    cases j with
    | zero =>
      have hx : c ^^^ 2 ^ t < 256 := Nat.xor_lt_two_pow (n := 8) hc h2
      rw [show (c :: l).set 0 ((c :: l)[0] ^^^ 2 ^ t) = (c ^^^ 2 ^ t) :: l from rfl, num_cons _ _ hx, num_cons _ _ hc, Nat.mul_zero, Nat.zero_add, Nat.xor_assoc, Nat.xor_assoc, Nat.xor_comm (2 ^ t)]
    | succ j =>
      have hj' : j < l.length := by simpa using hj
      rw [show (c :: l).set (j + 1) ((c :: l)[j + 1] ^^^ 2 ^ t) = c :: (l.set j (l[j] ^^^ 2 ^ t)) from rfl, num_cons _ _ hc, num_cons _ _ hc, ih j t hj' (fun c hc => h c (by simp [hc])) ht, mul_xor, ← Nat.pow_add, Nat.xor_assoc]
      congr 3
      omega
theorem row_step (row i : Nat) : row % 2 ^ (i + 1) = row % 2 ^ i ^^^ (if row.testBit i then 2 ^ i else 0) := by
  apply Nat.eq_of_testBit_eq
  intro j
  rw [Nat.testBit_mod_two_pow, Nat.testBit_xor, Nat.testBit_mod_two_pow]
  cases hb : row.testBit i with
  | true =>
    simp only [if_true, Nat.testBit_two_pow]
    by_cases h1 : j < i
    · have : ¬ i = j := by omega
      simp [h1, this]; omega
    · by_cases h2 : j = i
      · subst h2; simp [hb]
      · have : ¬ i = j := by omega
        have h3 : ¬ j < i + 1 := by omega
        simp [h1, this, h3]
  | false =>
    simp only [Bool.false_eq_true, if_false, Nat.zero_testBit]
    by_cases h1 : j < i
    · have : j < i + 1 := by omega
      simp [h1, this]
    · by_cases h2 : j = i
      · subst h2; simp [hb]
      · have h3 : ¬ j < i + 1 := by omega
        simp [h1, h3]
end Go.Proofs.YteplapigkofgaaaDoor
