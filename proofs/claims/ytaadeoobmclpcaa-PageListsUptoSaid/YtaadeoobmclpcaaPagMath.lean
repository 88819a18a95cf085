/- A sealed page's bytes; a bit of it turned: plain functions. -/
import Derived.Test.YtaadeoobmclpcaaPagCheck
namespace Go.Proofs.Ytaadeoobmclpcaa

theorem getD_set (l : List Nat) (i v j : Nat) (h : i < l.length) : (l.set i v).getD j 0 = if j = i then v else l.getD j 0 := by
  rw [List.getD_eq_getElem?_getD, List.getElem?_set, List.getD_eq_getElem?_getD]
  by_cases e : i = j
  · subst e; simp [h]
  · rw [if_neg e, if_neg (fun x => e x.symm)]
theorem list_ext {l m : List Nat} (hl : l.length = m.length) (h : ∀ j, j < l.length → l.getD j 0 = m.getD j 0) : l = m := by
  apply List.ext_getElem hl
  intro i h1 h2
  have := h i h1
  rwa [List.getD_eq_getElem?_getD, List.getElem?_eq_getElem h1, List.getD_eq_getElem?_getD, List.getElem?_eq_getElem h2] at this
theorem lay_get (zs : List Nat) (q n : Nat) : ∀ k, q + k ≤ zs.length → ∀ j, (lay zs q n k).getD j 0 = if q ≤ j ∧ j < q + k then n / 2 ^ (8 * (j - q)) % 256 else zs.getD j 0
  | 0, _, j => by rw [lay, if_neg (by omega)]
  | k + 1, h, j => by
    rw [lay, getD_set _ _ _ _ (by rw [lay_length]; omega)]
    by_cases e : j = q + k
    · rw [if_pos e, if_pos (by omega), e, Nat.add_sub_cancel_left]
    · rw [if_neg e, lay_get zs q n k (by omega) j]
      by_cases h2 : q ≤ j ∧ j < q + k
      · rw [if_pos h2, if_pos (by omega)]
      · rw [if_neg h2, if_neg (by omega)]
theorem shift_byte (N i : Nat) : N / 2 ^ (8 * (i + 1)) = N / 256 / 2 ^ (8 * i) := by
  rw [Nat.div_div_eq_div_mul, show 2 ^ (8 * (i + 1)) = 256 * 2 ^ (8 * i) from by rw [Nat.mul_add, Nat.pow_add]; omega]
theorem num_byte : ∀ (l : List Nat) (i : Nat), (∀ c ∈ l, c < 256) → num l / 2 ^ (8 * i) % 256 = l.getD i 0
  | [], i, _ => by simp [num]
  | c :: l, 0, h => by
    have := h c (by simp)
    simp [num]; omega
  | c :: l, i + 1, h => by
    have := h c (by simp)
    rw [shift_byte, show num (c :: l) / 256 = num l from by simp [num]; omega, num_byte l i (fun d hd => h d (by simp [hd]))]
    rfl
theorem rd_byte {p : List Nat} (hz : ∀ c ∈ p, c < 256) (a n i : Nat) (h : i < n) : rd p a n / 2 ^ (8 * i) % 256 = p.getD (a + i) 0 := by
  rw [rd, num_byte _ _ (fun c hc => hz c (List.mem_of_mem_drop (List.mem_of_mem_take hc)))]
  rw [List.getD_eq_getElem?_getD, List.getElem?_take, if_pos h, List.getElem?_drop, List.getD_eq_getElem?_getD]
theorem bytes_eq : ∀ (k a b : Nat), a < 2 ^ (8 * k) → b < 2 ^ (8 * k) → (∀ i, i < k → a / 2 ^ (8 * i) % 256 = b / 2 ^ (8 * i) % 256) → a = b
  | 0, a, b, ha, hb, _ => by simp at ha hb; omega
  | k + 1, a, b, ha, hb, h => by
    have h0 := h 0 (by omega)
    simp only [Nat.mul_zero, Nat.pow_zero, Nat.div_one] at h0
    have hp : 2 ^ (8 * (k + 1)) = 256 * 2 ^ (8 * k) := by rw [Nat.mul_add, Nat.pow_add]; omega
    rw [hp] at ha hb
    have := bytes_eq k (a / 256) (b / 256) (Nat.div_lt_of_lt_mul ha) (Nat.div_lt_of_lt_mul hb) (fun i hi => by
      have := h (i + 1) (by omega)
      rwa [shift_byte, shift_byte] at this)
    omega
theorem rd_is {p : List Nat} (hz : ∀ c ∈ p, c < 256) (a n x : Nat) (h : a + n ≤ p.length) (hx : x < 2 ^ (8 * n)) (hb : ∀ i, i < n → p.getD (a + i) 0 = x / 2 ^ (8 * i) % 256) : rd p a n = x :=
  bytes_eq n _ _ (rd_lt hz a n h) hx (fun i hi => by rw [rd_byte hz a n i hi, hb i hi])
theorem wr_get (p : List Nat) (h : Hd) (hl : 26 ≤ p.length) (j : Nat) : (wr p h).getD j 0 =
    if 22 ≤ j ∧ j < 22 + 4 then h.extra / 2 ^ (8 * (j - 22)) % 256 else if 18 ≤ j ∧ j < 18 + 4 then h.link / 2 ^ (8 * (j - 18)) % 256 else if 16 ≤ j ∧ j < 16 + 2 then h.low / 2 ^ (8 * (j - 16)) % 256 else
    if 14 ≤ j ∧ j < 14 + 2 then h.count / 2 ^ (8 * (j - 14)) % 256 else if j = 13 then h.zero else if j = 12 then h.kind else if 4 ≤ j ∧ j < 4 + 8 then h.lsn / 2 ^ (8 * (j - 4)) % 256 else if 0 ≤ j ∧ j < 0 + 4 then h.sum / 2 ^ (8 * (j - 0)) % 256 else p.getD j 0 := by
  unfold wr wr1
  rw [lay_get _ _ _ _ (by simp [lay_length]; omega), lay_get _ _ _ _ (by simp [lay_length]; omega), lay_get _ _ _ _ (by simp [lay_length]; omega), lay_get _ _ _ _ (by simp [lay_length]; omega), getD_set _ _ _ _ (by simp [lay_length]; omega), getD_set _ _ _ _ (by simp [lay_length]; omega), lay_get _ _ _ _ (by simp [lay_length]; omega), lay_get _ _ _ _ (by omega)]
/-- A page with that LSN and that sum. -/
def stamped (p : List Nat) (x s : Nat) : List Nat := lay (lay p 4 x 8) 0 s 4
theorem stamped_length (p : List Nat) (x s : Nat) : (stamped p x s).length = p.length := by rw [stamped, lay_length, lay_length]
theorem stamped_get (p : List Nat) (x s : Nat) (hl : 26 ≤ p.length) (j : Nat) : (stamped p x s).getD j 0 = if 0 ≤ j ∧ j < 0 + 4 then s / 2 ^ (8 * (j - 0)) % 256 else if 4 ≤ j ∧ j < 4 + 8 then x / 2 ^ (8 * (j - 4)) % 256 else p.getD j 0 := by
  rw [stamped, lay_get _ _ _ _ (by rw [lay_length]; omega), lay_get _ _ _ _ (by omega)]
theorem wr_stamped {p p' : List Nat} (hz : ∀ c ∈ p, c < 256) (hl : 26 ≤ p.length) (hl' : p'.length = p.length) (hp : ∀ j, 26 ≤ j → p'.getD j 0 = p.getD j 0) (x s : Nat) : wr p' { hdOf p with lsn := x, sum := s } = stamped p x s := by
  refine list_ext (by rw [wr_length, stamped_length, hl']) (fun j _ => ?_)
  rw [wr_get _ _ (by omega), stamped_get _ _ _ hl]
  by_cases c1 : 22 ≤ j ∧ j < 22 + 4
  · rw [if_pos c1, if_neg (by omega), if_neg (by omega)]
    show rd p 22 4 / _ % 256 = _
    rw [rd_byte hz _ _ _ (by omega), show 22 + (j - 22) = j from by omega]
  rw [if_neg c1]
  by_cases c2 : 18 ≤ j ∧ j < 18 + 4
  · rw [if_pos c2, if_neg (by omega), if_neg (by omega)]
    show rd p 18 4 / _ % 256 = _
    rw [rd_byte hz _ _ _ (by omega), show 18 + (j - 18) = j from by omega]
  rw [if_neg c2]
  by_cases c3 : 16 ≤ j ∧ j < 16 + 2
  · rw [if_pos c3, if_neg (by omega), if_neg (by omega)]
    show rd p 16 2 / _ % 256 = _
    rw [rd_byte hz _ _ _ (by omega), show 16 + (j - 16) = j from by omega]
  rw [if_neg c3]
  by_cases c4 : 14 ≤ j ∧ j < 14 + 2
  · rw [if_pos c4, if_neg (by omega), if_neg (by omega)]
    show rd p 14 2 / _ % 256 = _
    rw [rd_byte hz _ _ _ (by omega), show 14 + (j - 14) = j from by omega]
  rw [if_neg c4]
  by_cases c5 : j = 13
  · rw [if_pos c5, if_neg (by omega), if_neg (by omega), c5]; rfl
  rw [if_neg c5]
  by_cases c6 : j = 12
  · rw [if_pos c6, if_neg (by omega), if_neg (by omega), c6]; rfl
  rw [if_neg c6]
  by_cases c7 : 4 ≤ j ∧ j < 4 + 8
  · rw [if_pos c7, if_neg (by omega), if_pos c7]
  rw [if_neg c7]
  by_cases c8 : 0 ≤ j ∧ j < 0 + 4
  · rw [if_pos c8, if_pos c8]
  rw [if_neg c8, if_neg c8, if_neg c7]
  exact hp j (by omega)
theorem drop_ext {l m : List Nat} (hl : l.length = m.length) (k : Nat) (h : ∀ j, k ≤ j → l.getD j 0 = m.getD j 0) : l.drop k = m.drop k := by
  refine list_ext (by simp [hl]) (fun j _ => ?_)
  have := h (k + j) (by omega)
  rw [List.getD_eq_getElem?_getD, List.getElem?_drop, ← List.getD_eq_getElem?_getD, this, List.getD_eq_getElem?_getD, List.getD_eq_getElem?_getD, List.getElem?_drop]
/-- The sum that a sealed page bears. -/
def sumOf (p : List Nat) (x : Nat) : Nat := more 0 ((lay p 4 x 8).drop 4)
theorem stamped_drop (p : List Nat) (x s : Nat) (hl : 26 ≤ p.length) : (stamped p x s).drop 4 = (lay p 4 x 8).drop 4 := by
  refine drop_ext (by rw [stamped, lay_length]) 4 (fun j hj => ?_)
  rw [stamped, lay_get _ _ _ _ (by rw [lay_length]; omega), if_neg (by omega)]
theorem sealed_is {p : List Nat} (hz : ∀ c ∈ p, c < 256) (hl : 26 ≤ p.length) (x : Nat) : sealed p x = stamped p x (sumOf p x) := by
  have e1 : wr p { hdOf p with lsn := x } = stamped p x (rd p 0 4) := wr_stamped hz hl rfl (fun _ _ => rfl) x (rd p 0 4)
  rw [sealed, e1, stamped_drop _ _ _ hl]
  refine wr_stamped hz hl (stamped_length _ _ _) (fun j hj => ?_) x _
  rw [stamped_get _ _ _ hl, if_neg (by omega), if_neg (by omega)]
theorem stamped_bytes {p : List Nat} (hz : ∀ c ∈ p, c < 256) (x s : Nat) : ∀ c ∈ stamped p x s, c < 256 := lay_bytes _ _ (lay_bytes _ _ hz _) _
theorem rd_congr {p q : List Nat} (h : q.drop 13 = p.drop 13) (a n : Nat) (ha : 13 ≤ a) : rd q a n = rd p a n := by
  have e : ∀ l : List Nat, l.drop a = (l.drop 13).drop (a - 13) := fun l => by rw [List.drop_drop]; congr 1; omega
  rw [rd, rd, e q, e p, h]
theorem marks_congr {p q : List Nat} (h : q.drop 13 = p.drop 13) (low : Nat) : ∀ n, marks q low n = marks p low n
  | 0 => rfl
  | n + 1 => by rw [marks, marks, marks_congr h low n, rd_congr h _ _ (by omega), rd_congr h _ _ (by omega)]
theorem good_congr {p q : List Nat} (hl : q.length = p.length) (h : q.drop 13 = p.drop 13) (hg : Good p) : Good q := by
  refine ⟨hl.trans hg.1, ?_, ?_, ?_, ?_⟩
  · have : q.getD 13 0 = (q.drop 13).getD 0 0 := by simp [List.getD_eq_getElem?_getD, List.getElem?_drop]
    rw [this, h]
    have := hg.2.1
    simpa [List.getD_eq_getElem?_getD, List.getElem?_drop] using this
  · rw [rd_congr h _ _ (by omega), rd_congr h _ _ (by omega)]; exact hg.2.2.1
  · rw [rd_congr h _ _ (by omega)]; exact hg.2.2.2.1
  · rw [rd_congr h _ _ (by omega), rd_congr h _ _ (by omega), marks_congr h]; exact hg.2.2.2.2
end Go.Proofs.Ytaadeoobmclpcaa
