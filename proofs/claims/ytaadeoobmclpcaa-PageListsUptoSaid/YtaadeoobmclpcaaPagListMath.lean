/- The cells of a page that was changed: plain facts. -/
import Derived.Test.YtaadeoobmclpcaaPagRefMath
import Derived.Test.YtaadeoobmclpcaaPagRelMath
namespace Go.Proofs.Ytaadeoobmclpcaa

theorem rd_shift {P R : List Nat} {a b m : Nat} (ha : a + m ≤ P.length) (hb : b + m ≤ R.length) (h : ∀ t, t < m → P.getD (a + t) 0 = R.getD (b + t) 0) : rd P a m = rd R b m := by
  rw [rd, rd]
  congr 1
  refine list_ext (by rw [List.length_take, List.length_take, List.length_drop, List.length_drop]; omega) (fun t ht => ?_)
  have ht' : t < m := by rw [List.length_take] at ht; omega
  have := h t ht'
  simp only [List.getD_eq_getElem?_getD] at this ⊢
  rw [List.getElem?_take, List.getElem?_take, if_pos ht', if_pos ht', List.getElem?_drop, List.getElem?_drop]
  exact this
/-- A cell that has the same place and size, and the same bytes there. -/
theorem cell_shift {P R : List Nat} {k j : Nat} (hl : P.length = 512) (hl' : R.length = 512) (ha : rd P (26 + 4 * k) 2 = rd R (26 + 4 * j) 2) (hs : rd P (28 + 4 * k) 2 = rd R (28 + 4 * j) 2)
    (h : ∀ p, rd R (26 + 4 * j) 2 ≤ p → p < rd R (26 + 4 * j) 2 + rd R (28 + 4 * j) 2 → P.getD p 0 = R.getD p 0) : cellOf P k = cellOf R j := by
  rw [cellOf, cellOf, ha, hs]
  refine list_ext (by rw [List.length_take, List.length_take, List.length_drop, List.length_drop, hl, hl']) (fun t ht => ?_)
  have ht' : t < rd R (28 + 4 * j) 2 := by rw [List.length_take] at ht; omega
  have := h (rd R (26 + 4 * j) 2 + t) (by omega) (by omega)
  simp only [List.getD_eq_getElem?_getD] at this ⊢
  rw [List.getElem?_take, List.getElem?_take, if_pos ht', if_pos ht', List.getElem?_drop, List.getElem?_drop]
  exact this
theorem cells_from {P : List Nat} {n : Nat} {M : List (List Nat)} (hM : M.length = n) (h : ∀ k, (hk : k < M.length) → cellOf P k = M[k]) : (List.range n).map (cellOf P) = M := by
  refine List.ext_getElem (by simp [hM]) (fun k h1 h2 => ?_)
  rw [List.getElem_map, List.getElem_range]
  exact h k h2
theorem refIns_get {R cs : List Nat} (hl : R.length = 512) {n i lo : Nat} (hi : i ≤ n) (h1 : 30 + 4 * n ≤ lo) (h2 : lo + cs.length ≤ 512) {j : Nat} (hj : 26 ≤ j) :
    (refIns R n i lo cs).getD j 0 = if lo ≤ j ∧ j < lo + cs.length then cs.getD (j - lo) 0 else (slotSet (shUp R n i) i lo cs.length).getD j 0 := by
  have hS := shUp_length hl hi (by omega)
  have hX : (slotSet (shUp R n i) i lo cs.length).length = 512 := by rw [slotSet_length]; exact hS
  rw [refIns, splice_get _ _ _ (by rw [lay_length, lay_length]; omega), lay_get _ _ _ _ (by rw [lay_length]; omega), if_neg (show ¬ (16 ≤ j ∧ j < 16 + 2) by omega), lay_get _ _ _ _ (by omega), if_neg (show ¬ (14 ≤ j ∧ j < 14 + 2) by omega)]
theorem refIns_head {R cs : List Nat} (hz : ∀ c ∈ R, c < 256) (hl : R.length = 512) {n i lo : Nat} (hi : i ≤ n) (h1 : 30 + 4 * n ≤ lo) (h2 : lo + cs.length ≤ 512) : hdOf (refIns R n i lo cs) = { { hdOf R with count := n + 1 } with low := lo } := by
  have hS := shUp_length hl hi (by omega)
  have hSb := shUp_bytes hz n i
  have hX : (slotSet (shUp R n i) i lo cs.length).length = 512 := by rw [slotSet_length]; exact hS
  have hXb := slotSet_bytes hSb i lo cs.length
  have hY : (lay (slotSet (shUp R n i) i lo cs.length) 14 (n + 1) 2).length = 512 := by rw [lay_length]; exact hX
  have hYb := lay_bytes 14 (n + 1) hXb 2
  have hZ : (lay (lay (slotSet (shUp R n i) i lo cs.length) 14 (n + 1) 2) 16 lo 2).length = 512 := by rw [lay_length]; exact hY
  have hSR : hdOf (shUp R n i) = hdOf R := hdOf_congr (by rw [hS, hl]) (fun j hj => by rw [shUp_get hl hi (by omega), if_neg (by omega)])
  rw [refIns, hdOf_splice hZ h2 (by omega), hdOf_low hYb hY _ (by omega), hdOf_count hXb hX _ (by omega), hdOf_slotSet hS _ _ _ (by omega), hSR]
/-- One cell more: the page is good, and its cells are these. -/
theorem ins_good {R cs : List Nat} (hz : ∀ c ∈ R, c < 256) (hg : Good R) {n i lo : Nat} (hn : n = rd R 14 2) (hi : i ≤ n) (h1 : 30 + 4 * n ≤ lo) (hlo : lo + cs.length = rd R 16 2) :
    Good (refIns R n i lo cs) ∧ rd (refIns R n i lo cs) 14 2 = n + 1 ∧ (List.range (n + 1)).map (cellOf (refIns R n i lo cs)) = ((List.range n).map (cellOf R)).take i ++ cs :: ((List.range n).map (cellOf R)).drop i := by
  have hl := hg.1
  have h5 := hg.2.2.2.1
  have h2 : lo + cs.length ≤ 512 := by omega
  have hS := shUp_length hl hi (by omega)
  have hSb := shUp_bytes hz n i
  have hX : (slotSet (shUp R n i) i lo cs.length).length = 512 := by rw [slotSet_length]; exact hS
  have hP : (refIns R n i lo cs).length = 512 := by rw [refIns, length_splice _ _ _ (by rw [lay_length, lay_length]; omega), lay_length, lay_length]; exact hX
  have hhd := refIns_head (cs := cs) hz hl hi h1 h2
  have hget := fun {j : Nat} (hj : 26 ≤ j) => refIns_get (cs := cs) hl hi h1 h2 hj
  have hsl := fun j => slotSet_get (shUp R n i) i lo cs.length (by omega) j
  obtain ⟨P, hPe⟩ : ∃ P, P = refIns R n i lo cs := ⟨_, rfl⟩
  rw [← hPe] at hP hhd hget ⊢
  have hc : rd P 14 2 = n + 1 := congrArg Hd.count hhd
  have hw : rd P 16 2 = lo := congrArg Hd.low hhd
  have h13 : P.getD 13 0 = 0 := (congrArg Hd.zero hhd).trans hg.2.1
  -- the slots
  have a1 : ∀ k, k < i → ∀ d, d = 26 ∨ d = 28 → rd P (d + 4 * k) 2 = rd R (d + 4 * k) 2 := fun k hk d hd => rd_shift (by omega) (by omega) (fun t ht => by
    rw [hget (by omega), if_neg (by omega), hsl, if_neg (by omega), if_neg (by omega), shUp_get hl hi (by omega), if_neg (by omega)])
  have a2 : rd P (26 + 4 * i) 2 = lo := (rd_shift (R := slotSet (shUp R n i) i lo cs.length) (b := 26 + 4 * i) (by omega) (by omega) (fun t ht => by rw [hget (by omega), if_neg (by omega)])).trans (slotSet_at hSb i lo cs.length (by omega) (by omega))
  have a3 : rd P (28 + 4 * i) 2 = cs.length := (rd_shift (R := slotSet (shUp R n i) i lo cs.length) (b := 28 + 4 * i) (by omega) (by omega) (fun t ht => by rw [hget (by omega), if_neg (by omega)])).trans (slotSet_size hSb i lo cs.length (by omega) (by omega))
  have a4 : ∀ k, i ≤ k → k < n → ∀ d, d = 26 ∨ d = 28 → rd P (d + 4 * (k + 1)) 2 = rd R (d + 4 * k) 2 := fun k hk hkn d hd => rd_shift (by omega) (by omega) (fun t ht => by
    rw [hget (by omega), if_neg (by omega), hsl, if_neg (by omega), if_neg (by omega), shUp_get hl hi (by omega), if_pos (by omega)]
    congr 1
    omega)
  -- the bytes behind them
  have a5 : ∀ p, rd R 16 2 ≤ p → P.getD p 0 = R.getD p 0 := fun p hp => by
    rw [hget (by omega), if_neg (by omega), hsl, if_neg (by omega), if_neg (by omega), shUp_get hl hi (by omega), if_neg (by omega)]
  have a6 : ∀ t, t < cs.length → P.getD (lo + t) 0 = cs.getD t 0 := fun t ht => by
    rw [hget (by omega), if_pos (by omega)]
    congr 1
    omega
  have src : ∀ k, k < n + 1 → k ≠ i → ∃ j, j < n ∧ (j = if k < i then k else k - 1) ∧ rd P (26 + 4 * k) 2 = rd R (26 + 4 * j) 2 ∧ rd P (28 + 4 * k) 2 = rd R (28 + 4 * j) 2 := fun k hk hne => by
    by_cases h : k < i
    · exact ⟨k, by omega, by rw [if_pos h], a1 k h 26 (.inl rfl), a1 k h 28 (.inr rfl)⟩
    · obtain ⟨j, rfl⟩ : ∃ j, k = j + 1 := ⟨k - 1, by omega⟩
      exact ⟨j, by omega, by rw [if_neg h]; rfl, a4 j (by omega) (by omega) 26 (.inl rfl), a4 j (by omega) (by omega) 28 (.inr rfl)⟩
  refine ⟨good_of hP h13 (by omega) (by omega) (fun k hk => ?_) (fun k k' p hkk hk' h3 h4 => ?_), hc, ?_⟩
  · rw [hc] at hk
    by_cases e : k = i
    · subst e; omega
    · obtain ⟨j, hj, _, e1, e2⟩ := src k hk e
      have := good_low hg j (by omega)
      have := good_cell hg j (by omega)
      omega
  · rw [hc] at hk'
    unfold In1 at h3 h4
    by_cases e : k = i
    · subst e
      obtain ⟨j, hj, _, e1, e2⟩ := src k' hk' (by omega)
      have := good_low hg j (by omega)
      omega
    · obtain ⟨j, hj, hj2, e1, e2⟩ := src k (by omega) e
      by_cases e' : k' = i
      · subst e'
        have := good_low hg j (by omega)
        omega
      · obtain ⟨j', hj', hj2', e1', e2'⟩ := src k' hk' e'
        have hlt : j < j' := by
          rw [hj2, hj2']
          split <;> split <;> omega
        exact good_apart hg j j' p hlt (by omega) ⟨by omega, by omega⟩ ⟨by omega, by omega⟩
  · refine cells_from (by simp; omega) (fun k hk => ?_)
    have hk1 : k < n + 1 := by simp at hk; omega
    by_cases e : k = i
    · subst e
      rw [List.getElem_append_right (by simp; omega)]
      simp only [List.length_take, List.length_map, List.length_range, Nat.min_eq_left hi, Nat.sub_self, List.getElem_cons_zero]
      rw [cellOf, a2, a3]
      refine list_ext (by rw [List.length_take, List.length_drop, hP]; omega) (fun t ht => ?_)
      have ht' : t < cs.length := by rw [List.length_take] at ht; omega
      have := a6 t ht'
      simp only [List.getD_eq_getElem?_getD] at this ⊢
      rw [List.getElem?_take, if_pos ht', List.getElem?_drop]
      exact this
    · obtain ⟨j, hj, hj2, e1, e2⟩ := src k hk1 e
      have hlw := good_low hg j (by omega)
      have hce : cellOf P k = cellOf R j := cell_shift hP hl e1 e2 (fun p h3 h4 => a5 p (by omega))
      rw [hce]
      by_cases h : k < i
      · rw [if_pos h] at hj2
        subst hj2
        rw [List.getElem_append_left (by simp; omega)]
        simp
      · rw [if_neg h] at hj2
        rw [List.getElem_append_right (by simp; omega)]
        simp only [List.length_take, List.length_map, List.length_range, Nat.min_eq_left hi]
        obtain ⟨q, hq⟩ : ∃ q, k - i = q + 1 := ⟨k - i - 1, by omega⟩
        simp only [hq, List.getElem_cons_succ, List.getElem_drop, List.getElem_map, List.getElem_range]
        congr 1
        omega
/-- A page whose slots come from another's, each from a slot of its own, the order kept, is good. -/
theorem good_from {R P : List Nat} (hg : Good R) {n' : Nat} (hP : P.length = 512) (h13 : P.getD 13 0 = 0) (hc : rd P 14 2 = n') (hw1 : 26 + 4 * n' ≤ rd P 16 2) (hw2 : rd P 16 2 ≤ 512) (σ : Nat → Nat)
    (hs : ∀ k, k < n' → σ k < rd R 14 2 ∧ rd P 16 2 ≤ rd P (26 + 4 * k) 2 ∧ rd P (26 + 4 * k) 2 = rd R (26 + 4 * σ k) 2 ∧ rd P (28 + 4 * k) 2 ≤ rd R (28 + 4 * σ k) 2) (hm : ∀ k k', k < k' → k' < n' → σ k < σ k') : Good P := by
  refine good_of hP h13 (by omega) hw2 (fun k hk => ?_) (fun k k' p hkk hk' h3 h4 => ?_)
  · rw [hc] at hk
    obtain ⟨h1, h2, e1, e2⟩ := hs k hk
    have := good_cell hg (σ k) h1
    omega
  · rw [hc] at hk'
    obtain ⟨h1, h2, e1, e2⟩ := hs k (by omega)
    obtain ⟨h1', h2', e1', e2'⟩ := hs k' hk'
    unfold In1 at h3 h4
    exact good_apart hg (σ k) (σ k') p (hm k k' hkk hk') h1' ⟨by omega, by omega⟩ ⟨by omega, by omega⟩
/-- The place of a cell ahead of one's being taken out. -/
def skip (i k : Nat) : Nat := if k < i then k else k + 1
theorem skip_lo {i k : Nat} (h : k < i) : skip i k = k := if_pos h
theorem skip_hi {i k : Nat} (h : ¬ k < i) : skip i k = k + 1 := if_neg h
theorem skip_mono (i : Nat) {k k' : Nat} (h : k < k') : skip i k < skip i k' := by
  unfold skip
  split <;> split <;> omega
theorem skip_lt {i k n : Nat} (h : k < n - 1) : skip i k < n := by
  unfold skip
  split <;> omega
attribute [local irreducible] skip
set_option maxHeartbeats 1000000 in
/-- One cell less. -/
theorem rem_good {R : List Nat} (hz : ∀ c ∈ R, c < 256) (hg : Good R) {i n : Nat} (hn : n = rd R 14 2) (hi : i < n) :
    Good (removed R i) ∧ rd (removed R i) 14 2 = n - 1 ∧ (List.range (n - 1)).map (cellOf (removed R i)) = ((List.range n).map (cellOf R)).take i ++ ((List.range n).map (cellOf R)).drop (i + 1) := by
  have hl := hg.1
  have h1 := hg.2.2.1
  have h5 := hg.2.2.2.1
  have hF := hdOf_fits hz (by omega : 26 ≤ R.length)
  have hS := shDown_length hl (show i ≤ n - 1 by omega) (by omega)
  have hSb := shDown_bytes hz i (n - 1)
  have hX : (lay (shDown R i (n - 1)) (22 + 4 * n) 0 4).length = 512 := by rw [lay_length]; exact hS
  have hXb := lay_bytes (22 + 4 * n) 0 hSb 4
  have hPe : removed R i = wr (lay (shDown R i (n - 1)) (22 + 4 * n) 0 4) { hdOf R with count := n - 1, low := if n = 1 then 512 else rd R 16 2 } := by
    rw [← removed_eq, hn, show splice R (26 + 4 * i) ((R.drop (30 + 4 * i)).take (4 * (rd R 14 2 - 1 - i))) = shDown R i (rd R 14 2 - 1) from rfl]
  have hF' : ({ hdOf R with count := n - 1, low := if n = 1 then 512 else rd R 16 2 } : Hd).Fits := ⟨hF.1, hF.2.1, hF.2.2.1, hF.2.2.2.1, hF.2.2.2.2.1, hF.2.2.2.2.2.1, by show n - 1 < 65536; omega, by show (if n = 1 then 512 else rd R 16 2) < 65536; split <;> omega⟩
  have hhd : hdOf (removed R i) = { hdOf R with count := n - 1, low := if n = 1 then 512 else rd R 16 2 } := by rw [hPe]; exact wr_hdOf hXb (by omega) hF'
  have hP : (removed R i).length = 512 := removed_length hg (by omega)
  have hget : ∀ j, 26 ≤ j → (removed R i).getD j 0 = if 22 + 4 * n ≤ j ∧ j < 26 + 4 * n then 0 else if 26 + 4 * i ≤ j ∧ j < 22 + 4 * n then R.getD (j + 4) 0 else R.getD j 0 := fun j hj => by
    rw [hPe, wr_rest _ _ (by omega) hj, lay_get _ _ _ _ (by omega), shDown_get hl (by omega) (by omega)]
    by_cases h : 22 + 4 * n ≤ j ∧ j < 26 + 4 * n
    · rw [if_pos (by omega), if_pos h, Nat.zero_div]
    · rw [if_neg (by omega), if_neg h, show 26 + 4 * (n - 1) = 22 + 4 * n from by omega]
  obtain ⟨P, hPP⟩ : ∃ P, P = removed R i := ⟨_, rfl⟩
  rw [← hPP] at hhd hP hget ⊢
  have hc : rd P 14 2 = n - 1 := congrArg Hd.count hhd
  have hw : rd P 16 2 = if n = 1 then 512 else rd R 16 2 := congrArg Hd.low hhd
  have h13 : P.getD 13 0 = 0 := (congrArg Hd.zero hhd).trans hg.2.1
  have a1 : ∀ k, k < n - 1 → ∀ d, d = 26 ∨ d = 28 → rd P (d + 4 * k) 2 = rd R (d + 4 * skip i k) 2 := fun k hk d hd => by
    by_cases h : k < i
    · rw [skip_lo h]
      exact rd_shift (by omega) (by omega) (fun t ht => by rw [hget _ (by omega), if_neg (by omega), if_neg (by omega)])
    · rw [skip_hi h]
      exact rd_shift (by omega) (by omega) (fun t ht => by
        rw [hget _ (by omega), if_neg (by omega), if_pos (by omega), show d + 4 * k + t + 4 = d + 4 * (k + 1) + t from by omega])
  have a5 : ∀ p, rd R 16 2 ≤ p → P.getD p 0 = R.getD p 0 := fun p hp => by rw [hget _ (by omega), if_neg (by omega), if_neg (by omega)]
  have hσ : ∀ k, k < n - 1 → skip i k < rd R 14 2 := fun k hk => by rw [← hn]; exact skip_lt hk
  have hw1 : 26 + 4 * (n - 1) ≤ rd P 16 2 := by
    rw [hw]
    split <;> omega
  have hw2 : rd P 16 2 ≤ 512 := by
    rw [hw]
    split <;> omega
  have hw3 : ∀ k, k < n - 1 → rd P 16 2 = rd R 16 2 := fun k hk => by rw [hw, if_neg (by omega)]
  clear hw hhd hget hPP hPe hF hF' hX hXb hS hSb
  refine ⟨good_from hg hP h13 hc hw1 hw2 (skip i) (fun k hk => ?_) (fun k k' h _ => skip_mono i h), hc, ?_⟩
  · have e1 := a1 k hk 26 (.inl rfl)
    have e2 := a1 k hk 28 (.inr rfl)
    have e3 := good_low hg _ (hσ k hk)
    exact ⟨hσ k hk, by rw [hw3 k hk, e1]; exact e3, e1, Nat.le_of_eq e2⟩
  · refine cells_from (by simp; omega) (fun k hk => ?_)
    have hk1 : k < n - 1 := by simp at hk; omega
    have hlw := good_low hg _ (hσ k hk1)
    have hce : cellOf P k = cellOf R (skip i k) := cell_shift hP hl (a1 k hk1 26 (.inl rfl)) (a1 k hk1 28 (.inr rfl)) (fun p h3 h4 => a5 p (Nat.le_trans hlw h3))
    rw [hce]
    by_cases h : k < i
    · rw [skip_lo h, List.getElem_append_left (by simp; omega)]
      simp
    · rw [skip_hi h, List.getElem_append_right (by simp; omega)]
      simp only [List.length_take, List.length_map, List.length_range, Nat.min_eq_left (Nat.le_of_lt hi), List.getElem_drop, List.getElem_map, List.getElem_range]
      rw [show i + 1 + (k - i) = k + 1 from by omega]
/-- The cells of a page, one of them another. -/
theorem cells_set {P R cs : List Nat} {n i : Nat} (hi : i < n) (h : ∀ k, k < n → k ≠ i → cellOf P k = cellOf R k) (hc : cellOf P i = cs) :
    (List.range n).map (cellOf P) = ((List.range n).map (cellOf R)).take i ++ cs :: ((List.range n).map (cellOf R)).drop (i + 1) := by
  refine cells_from (by simp; omega) (fun k hk => ?_)
  have hk1 : k < n := by simp at hk; omega
  by_cases e : k = i
  · subst e
    rw [List.getElem_append_right (by simp; omega), hc]
    simp only [List.length_take, List.length_map, List.length_range, Nat.min_eq_left (Nat.le_of_lt hi), Nat.sub_self, List.getElem_cons_zero]
  · rw [h k hk1 e]
    by_cases h' : k < i
    · rw [List.getElem_append_left (by simp; omega)]
      simp
    · rw [List.getElem_append_right (by simp; omega)]
      simp only [List.length_take, List.length_map, List.length_range, Nat.min_eq_left (Nat.le_of_lt hi)]
      obtain ⟨q, hq⟩ : ∃ q, k - i = q + 1 := ⟨k - i - 1, by omega⟩
      simp only [hq, List.getElem_cons_succ, List.getElem_drop, List.getElem_map, List.getElem_range]
      rw [show i + 1 + q = k from by omega]
theorem cell_bytes_at {P cs : List Nat} {i x : Nat} (hl : P.length = 512) (hx : x + cs.length ≤ 512) (ha : rd P (26 + 4 * i) 2 = x) (hs : rd P (28 + 4 * i) 2 = cs.length) (h : ∀ t, t < cs.length → P.getD (x + t) 0 = cs.getD t 0) : cellOf P i = cs := by
  rw [cellOf, ha, hs]
  refine list_ext (by rw [List.length_take, List.length_drop, hl]; omega) (fun t ht => ?_)
  have ht' : t < cs.length := by rw [List.length_take] at ht; omega
  have := h t ht'
  simp only [List.getD_eq_getElem?_getD] at this ⊢
  rw [List.getElem?_take, if_pos ht', List.getElem?_drop]
  exact this
/-- A page one of whose slots was turned: the head, the other slots and all bytes outside are as they were. -/
theorem slot_turned {P R cs : List Nat} (hg : Good R) {i x lo : Nat} (hi : i < rd R 14 2) (hP : P.length = 512) (h13 : P.getD 13 0 = 0) (hc : rd P 14 2 = rd R 14 2) (hw : rd P 16 2 = lo) (hlo : lo ≤ rd R 16 2) (hlo2 : 26 + 4 * rd R 14 2 ≤ lo)
    (ha : rd P (26 + 4 * i) 2 = x) (hs : rd P (28 + 4 * i) 2 = cs.length) (hx1 : lo ≤ x) (hx2 : x + cs.length ≤ 512) (hb : ∀ t, t < cs.length → P.getD (x + t) 0 = cs.getD t 0)
    (hsl : ∀ k, k < rd R 14 2 → k ≠ i → rd P (26 + 4 * k) 2 = rd R (26 + 4 * k) 2 ∧ rd P (28 + 4 * k) 2 = rd R (28 + 4 * k) 2)
    (hap : ∀ k p, k < rd R 14 2 → k ≠ i → In1 R k p → ¬ (x ≤ p ∧ p < x + cs.length)) (hbs : ∀ p, rd R 16 2 ≤ p → ¬ (x ≤ p ∧ p < x + cs.length) → P.getD p 0 = R.getD p 0) :
    Good P ∧ (List.range (rd R 14 2)).map (cellOf P) = ((List.range (rd R 14 2)).map (cellOf R)).take i ++ cs :: ((List.range (rd R 14 2)).map (cellOf R)).drop (i + 1) := by
  have h5 := hg.2.2.2.1
  have hl := hg.1
  refine ⟨good_of hP h13 (by omega) (by omega) (fun k hk => ?_) (fun k k' p hkk hk' h3 h4 => ?_), cells_set hi (fun k hk hne => ?_) (cell_bytes_at hP hx2 ha hs hb)⟩
  · rw [hc] at hk
    by_cases e : k = i
    · subst e; omega
    · obtain ⟨e1, e2⟩ := hsl k hk e
      have := good_low hg k hk
      have := good_cell hg k hk
      omega
  · rw [hc] at hk'
    unfold In1 at h3 h4
    by_cases e : k = i
    · subst e
      obtain ⟨e1, e2⟩ := hsl k' hk' (by omega)
      exact hap k' p hk' (by omega) ⟨by omega, by omega⟩ ⟨by omega, by omega⟩
    · obtain ⟨e1, e2⟩ := hsl k (by omega) e
      by_cases e' : k' = i
      · subst e'
        exact hap k p (by omega) e ⟨by omega, by omega⟩ ⟨by omega, by omega⟩
      · obtain ⟨e1', e2'⟩ := hsl k' hk' e'
        exact good_apart hg k k' p hkk hk' ⟨by omega, by omega⟩ ⟨by omega, by omega⟩
  · obtain ⟨e1, e2⟩ := hsl k hk hne
    have hlw := good_low hg k hk
    exact cell_shift hP hl e1 e2 (fun p h3 h4 => hbs p (by omega) (hap k p hk hne ⟨h3, h4⟩))
/-- A cell replaced where it stands. -/
theorem repIn_good {R cs : List Nat} (hz : ∀ c ∈ R, c < 256) (hcs : ∀ c ∈ cs, c < 256) (hg : Good R) {i : Nat} (hi : i < rd R 14 2) (hle : cs.length ≤ rd R (28 + 4 * i) 2) :
    Good (repIn R i cs) ∧ rd (repIn R i cs) 14 2 = rd R 14 2 ∧ (List.range (rd R 14 2)).map (cellOf (repIn R i cs)) = ((List.range (rd R 14 2)).map (cellOf R)).take i ++ cs :: ((List.range (rd R 14 2)).map (cellOf R)).drop (i + 1) := by
  have hl := hg.1
  have h1 := hg.2.2.1
  have h5 := hg.2.2.2.1
  have h6 := good_cell hg i hi
  have h7 := good_low hg i hi
  obtain ⟨x, hx⟩ : ∃ x, x = rd R (26 + 4 * i) 2 := ⟨_, rfl⟩
  rw [← hx] at h6 h7
  have hS : (splice R x cs).length = 512 := splice_length' hl (by omega)
  have hP : (repIn R i cs).length = 512 := by rw [repIn, slotSet_length, ← hx]; exact hS
  have hget : ∀ j, (repIn R i cs).getD j 0 = if 28 + 4 * i ≤ j ∧ j < 28 + 4 * i + 2 then cs.length / 2 ^ (8 * (j - (28 + 4 * i))) % 256 else if 26 + 4 * i ≤ j ∧ j < 26 + 4 * i + 2 then x / 2 ^ (8 * (j - (26 + 4 * i))) % 256 else if x ≤ j ∧ j < x + cs.length then cs.getD (j - x) 0 else R.getD j 0 := fun j => by
    rw [repIn, ← hx, slotSet_get _ _ _ _ (by omega), splice_get _ _ _ (by omega)]
  have ha : rd (repIn R i cs) (26 + 4 * i) 2 = x := by
    rw [repIn, ← hx]
    exact slotSet_at (splice_bytes hz hcs _) i x _ (by omega) (by omega)
  have hs : rd (repIn R i cs) (28 + 4 * i) 2 = cs.length := by
    rw [repIn, ← hx]
    exact slotSet_size (splice_bytes hz hcs _) i x _ (by omega) (by omega)
  have hrd : ∀ a m, a + m ≤ 26 + 4 * i ∨ (30 + 4 * i ≤ a ∧ a + m ≤ x) → a + m ≤ 512 → rd (repIn R i cs) a m = rd R a m := fun a m h hm => rd_ext (by omega) _ _ (fun t ht => by
    rw [hget, if_neg (by omega), if_neg (by omega), if_neg (by omega)])
  have hcnt := hrd 14 2 (by omega) (by omega)
  have hlow := hrd 16 2 (by omega) (by omega)
  have h13 : (repIn R i cs).getD 13 0 = 0 := by
    rw [hget, if_neg (by omega), if_neg (by omega), if_neg (by omega)]
    exact hg.2.1
  have hb : ∀ t, t < cs.length → (repIn R i cs).getD (x + t) 0 = cs.getD t 0 := fun t ht => by
    rw [hget, if_neg (by omega), if_neg (by omega), if_pos (by omega), show x + t - x = t from by omega]
  have hbs : ∀ p, rd R 16 2 ≤ p → ¬ (x ≤ p ∧ p < x + cs.length) → (repIn R i cs).getD p 0 = R.getD p 0 := fun p hp hn => by
    rw [hget, if_neg (by omega), if_neg (by omega), if_neg hn]
  have hap : ∀ k p, k < rd R 14 2 → k ≠ i → In1 R k p → ¬ (x ≤ p ∧ p < x + cs.length) := fun k p hk hne hin hp => by
    have hi1 : In1 R i p := ⟨by omega, by omega⟩
    rcases Nat.lt_or_gt_of_ne hne with h | h
    · exact good_apart hg k i p h hi hin hi1
    · exact good_apart hg i k p h hk hi1 hin
  have hsl : ∀ k, k < rd R 14 2 → k ≠ i → rd (repIn R i cs) (26 + 4 * k) 2 = rd R (26 + 4 * k) 2 ∧ rd (repIn R i cs) (28 + 4 * k) 2 = rd R (28 + 4 * k) 2 := fun k hk hne => ⟨hrd _ _ (by omega) (by omega), hrd _ _ (by omega) (by omega)⟩
  have h := slot_turned hg hi hP h13 hcnt hlow (Nat.le_refl _) (by omega) ha hs (by omega) (by omega) hb hsl hap hbs
  exact ⟨h.1, hcnt, h.2⟩
/-- A cell laid in anew ahead of all others, its old place being empty. -/
theorem refPush_good {R cs : List Nat} (hz : ∀ c ∈ R, c < 256) (hg : Good R) {i a : Nat} (hi : i < rd R 14 2) (ha : a + cs.length = rd R 16 2) (hra : 26 + 4 * rd R 14 2 ≤ a) :
    Good (refPush R i a cs) ∧ rd (refPush R i a cs) 14 2 = rd R 14 2 ∧ (List.range (rd R 14 2)).map (cellOf (refPush R i a cs)) = ((List.range (rd R 14 2)).map (cellOf R)).take i ++ cs :: ((List.range (rd R 14 2)).map (cellOf R)).drop (i + 1) := by
  have hl := hg.1
  have h5 := hg.2.2.2.1
  have l1 : (lay R 16 a 2).length = 512 := by rw [lay_length]; exact hl
  have b1 := lay_bytes 16 a hz 2
  have l3 : (slotSet (lay R 16 a 2) i a cs.length).length = 512 := by rw [slotSet_length]; exact l1
  have he : refPush R i a cs = splice (slotSet (lay R 16 a 2) i a cs.length) a cs := by rw [refPush, slotSet]
  have hP : (refPush R i a cs).length = 512 := by rw [he]; exact splice_length' l3 (by omega)
  have hget : ∀ j, (refPush R i a cs).getD j 0 = if a ≤ j ∧ j < a + cs.length then cs.getD (j - a) 0 else (slotSet (lay R 16 a 2) i a cs.length).getD j 0 := fun j => by rw [he, splice_get _ _ _ (by omega)]
  have hsg : ∀ j, (slotSet (lay R 16 a 2) i a cs.length).getD j 0 = if 28 + 4 * i ≤ j ∧ j < 28 + 4 * i + 2 then cs.length / 2 ^ (8 * (j - (28 + 4 * i))) % 256 else if 26 + 4 * i ≤ j ∧ j < 26 + 4 * i + 2 then a / 2 ^ (8 * (j - (26 + 4 * i))) % 256 else if 16 ≤ j ∧ j < 16 + 2 then a / 2 ^ (8 * (j - 16)) % 256 else R.getD j 0 := fun j => by
    rw [slotSet_get _ _ _ _ (by omega), lay_get _ _ _ _ (by omega)]
  have e1 : ∀ q m, q + m ≤ a → q + m ≤ 512 → rd (refPush R i a cs) q m = rd (slotSet (lay R 16 a 2) i a cs.length) q m := fun q m h hm => rd_ext (by omega) _ _ (fun t ht => by rw [hget, if_neg (by omega)])
  have hat : rd (refPush R i a cs) (26 + 4 * i) 2 = a := (e1 _ _ (by omega) (by omega)).trans (slotSet_at b1 i a _ (by omega) (by omega))
  have hsz : rd (refPush R i a cs) (28 + 4 * i) 2 = cs.length := (e1 _ _ (by omega) (by omega)).trans (slotSet_size b1 i a _ (by omega) (by omega))
  have hrd : ∀ q m, (q + m ≤ 16 ∨ 18 ≤ q) → (q + m ≤ 26 + 4 * i ∨ 30 + 4 * i ≤ q) → q + m ≤ a → rd (refPush R i a cs) q m = rd R q m := fun q m h h' hm => (e1 q m hm (by omega)).trans (rd_ext (by omega) _ _ (fun t ht => by
    rw [hsg, if_neg (by omega), if_neg (by omega), if_neg (by omega)]))
  have hcnt := hrd 14 2 (by omega) (by omega) (by omega)
  have hlow : rd (refPush R i a cs) 16 2 = a := (e1 16 2 (by omega) (by omega)).trans ((slotSet_other i a cs.length (by omega) 16 2 (by omega)).trans (rd_lay_same hz 16 a 2 (by omega) (by omega)))
  have h13 : (refPush R i a cs).getD 13 0 = 0 := by
    rw [hget, if_neg (by omega), hsg, if_neg (by omega), if_neg (by omega), if_neg (by omega)]
    exact hg.2.1
  have hb : ∀ t, t < cs.length → (refPush R i a cs).getD (a + t) 0 = cs.getD t 0 := fun t ht => by
    rw [hget, if_pos (by omega), show a + t - a = t from by omega]
  have hbs : ∀ p, rd R 16 2 ≤ p → ¬ (a ≤ p ∧ p < a + cs.length) → (refPush R i a cs).getD p 0 = R.getD p 0 := fun p hp hn => by
    rw [hget, if_neg hn, hsg, if_neg (by omega), if_neg (by omega), if_neg (by omega)]
  have hap : ∀ k p, k < rd R 14 2 → k ≠ i → In1 R k p → ¬ (a ≤ p ∧ p < a + cs.length) := fun k p hk hne hin hp => by
    have := good_low hg k hk
    have h3 := hin.1
    omega
  have hsl : ∀ k, k < rd R 14 2 → k ≠ i → rd (refPush R i a cs) (26 + 4 * k) 2 = rd R (26 + 4 * k) 2 ∧ rd (refPush R i a cs) (28 + 4 * k) 2 = rd R (28 + 4 * k) 2 := fun k hk hne => ⟨hrd _ _ (by omega) (by omega) (by omega), hrd _ _ (by omega) (by omega) (by omega)⟩
  have h := slot_turned hg hi hP h13 hcnt hlow (by omega) hra hat hsz (Nat.le_refl _) (by omega) hb hsl hap hbs
  exact ⟨h.1, hcnt, h.2⟩
/-- What a page with one cell more holds, laid out anew or not. -/
theorem insOf_holds {zs cs : List Nat} (hz : ∀ c ∈ zs, c < 256) (hcs : ∀ c ∈ cs, c < 256) (hg : Good zs) {i : Nat} (hi : i ≤ rd zs 14 2) (hfree : 30 + 4 * rd zs 14 2 + sizes zs (rd zs 14 2) + cs.length ≤ 512) :
    Good (insOf zs i cs) ∧ rd (insOf zs i cs) 14 2 = rd zs 14 2 + 1 ∧ (List.range (rd zs 14 2 + 1)).map (cellOf (insOf zs i cs)) = ((List.range (rd zs 14 2)).map (cellOf zs)).take i ++ cs :: ((List.range (rd zs 14 2)).map (cellOf zs)).drop i := by
  have hl := hg.1
  have h5 := hg.2.2.2.1
  by_cases h : 30 + 4 * rd zs 14 2 + cs.length ≤ rd zs 16 2
  · rw [insOf, if_pos h, ← refIns_eq hz hl hcs hi h h5]
    exact ins_good hz hg rfl hi (by omega) (by omega)
  · rw [insOf, if_neg h]
    have hR := relaid_is hz hg
    have hRg := relaid_good hg hR
    have hc := relaid_count hR
    have hw := relaid_low hR
    have hcl := relaid_cells hg hR
    have hhd := hR.hd
    have hRb := hR.byte
    obtain ⟨R, hRe⟩ : ∃ R, R = relaid zs (hdOf zs) := ⟨_, rfl⟩
    rw [← hRe] at hRg hc hw hcl hhd hRb ⊢
    rw [← hhd, ← refIns_eq hRb hRg.1 hcs (by omega) (by omega) (by omega)]
    have h' := ins_good (cs := cs) (i := i) (lo := rd R 16 2 - cs.length) hRb hRg rfl (by omega) (by omega) (by omega)
    rw [hc] at h' hcl ⊢
    rw [hcl] at h'
    exact h'
/-- A page whose i-th cell was emptied. -/
theorem repZ_good {zs : List Nat} (hz : ∀ c ∈ zs, c < 256) (hg : Good zs) {i : Nat} (hi : i < rd zs 14 2) :
    Good (repZ zs i) ∧ (List.range (rd zs 14 2)).map (cellOf (repZ zs i)) = ((List.range (rd zs 14 2)).map (cellOf zs)).take i ++ [] :: ((List.range (rd zs 14 2)).map (cellOf zs)).drop (i + 1) := by
  have h1 := hg.2.2.1
  have h5 := hg.2.2.2.1
  have h := repIn_good (cs := []) hz (fun c hc => by cases hc) hg hi (Nat.zero_le _)
  have e : repIn zs i [] = repZ zs i := by rw [repIn, splice_nil, repZ_eq hz hg.1 (by omega)]; rfl
  rw [e] at h
  exact ⟨h.1, h.2.2⟩
theorem take_mid {L : List (List Nat)} {i : Nat} (h : i ≤ L.length) (x : List Nat) (M : List (List Nat)) : (L.take i ++ x :: M).take i = L.take i ∧ (L.take i ++ x :: M).drop (i + 1) = M := by
  have hl : (L.take i).length = i := by rw [List.length_take]; omega
  constructor
  · rw [List.take_append_of_le_length (by omega), List.take_take, Nat.min_self]
  · rw [List.drop_append, hl, List.drop_eq_nil_of_le (by omega), show i + 1 - i = 1 from by omega]
    rfl
/-- What a page with another cell holds. -/
theorem repOf_holds {zs cs : List Nat} (hz : ∀ c ∈ zs, c < 256) (hcs : ∀ c ∈ cs, c < 256) (hg : Good zs) {i : Nat} (hi : i < rd zs 14 2) (hfree : cs.length ≤ rd zs (28 + 4 * i) 2 ∨ 26 + 4 * rd zs 14 2 + sizes zs (rd zs 14 2) + cs.length ≤ 512 + rd zs (28 + 4 * i) 2) :
    Good (repOf zs i cs) ∧ rd (repOf zs i cs) 14 2 = rd zs 14 2 ∧ (List.range (rd zs 14 2)).map (cellOf (repOf zs i cs)) = ((List.range (rd zs 14 2)).map (cellOf zs)).take i ++ cs :: ((List.range (rd zs 14 2)).map (cellOf zs)).drop (i + 1) := by
  have hl := hg.1
  have h1 := hg.2.2.1
  have h5 := hg.2.2.2.1
  by_cases hle : cs.length ≤ rd zs (28 + 4 * i) 2
  · rw [repOf, if_pos hle]
    exact repIn_good hz hcs hg hi hle
  · have hfr : 26 + 4 * rd zs 14 2 + sizes zs (rd zs 14 2) + cs.length ≤ 512 + rd zs (28 + 4 * i) 2 := by
      rcases hfree with h | h
      · exact absurd h hle
      · exact h
    obtain ⟨hZg, hZc⟩ := repZ_good hz hg hi
    have hZb := repZ_bytes hz i
    have hcn := repZ_count hl (show 30 + 4 * i ≤ 512 by omega)
    have hlw := repZ_low hl (show 30 + 4 * i ≤ 512 by omega)
    have hss := repZ_sizes hz hg hi
    have hmid := take_mid (L := (List.range (rd zs 14 2)).map (cellOf zs)) (i := i) (by simp; omega) [] (((List.range (rd zs 14 2)).map (cellOf zs)).drop (i + 1))
    by_cases hm : 26 + 4 * rd zs 14 2 + cs.length ≤ rd zs 16 2
    · rw [← repGrow_room hz hg hcs hi (by omega) hm]
      have h := refPush_good (cs := cs) (i := i) (a := rd zs 16 2 - cs.length) hZb hZg (by omega) (by omega) (by omega)
      rw [hcn, hZc, hmid.1, hmid.2] at h
      exact h
    · rw [← repGrow_anew hz hg hcs hi (by omega) hm (by omega)]
      have hR := repZ_comp hz hg hi
      have hRg := relaid_good hZg hR
      have hc := relaid_count hR
      have hw := relaid_low hR
      have hcl := relaid_cells hZg hR
      have hRb := hR.byte
      rw [hcn] at hc hw hcl
      obtain ⟨R, hRe⟩ : ∃ R, R = refComp (repZ zs i) := ⟨_, rfl⟩
      rw [← hRe] at hRg hc hw hcl hRb ⊢
      have h := refPush_good (cs := cs) (i := i) (a := 512 - sizes (repZ zs i) (rd zs 14 2) - cs.length) hRb hRg (by omega) (by omega) (by omega)
      rw [hc] at h hcl
      rw [hcl, hZc, hmid.1, hmid.2] at h
      exact h
/-- The bytes of the cells, all together. -/
theorem sizes_sum {zs : List Nat} (hg : Good zs) : ∀ n, n ≤ rd zs 14 2 → sizes zs n = (((List.range n).map (cellOf zs)).map List.length).sum
  | 0, _ => rfl
  | n + 1, h => by
    rw [List.range_succ, List.map_append, List.map_append, List.sum_append, ← sizes_sum hg n (by omega)]
    show sizes zs n + rd zs (28 + 4 * n) 2 = _
    simp only [List.map_cons, List.map_nil, List.sum_cons, List.sum_nil, Nat.add_zero]
    rw [cellOf_length hg.1 (good_cell hg n (by omega))]
end Go.Proofs.Ytaadeoobmclpcaa
