/- Pages that the document makes, and those that the program makes: plain facts. -/
import Derived.Test.YtmojfhleelhghaaPagRefComp
namespace Go.Proofs.Ytmojfhleelhghaa

theorem wr_eq {A P : List Nat} {h : Hd} (ha : ∀ c ∈ A, c < 256) (hp : ∀ c ∈ P, c < 256) (hl : P.length = 512) (hl' : A.length = 512) (hF : h.Fits) (hh : hdOf A = h) (hr : ∀ j, 26 ≤ j → j < 512 → A.getD j 0 = P.getD j 0) : A = wr P h := by
  refine list_ext (by rw [wr_length, hl, hl']) (fun j hj => ?_)
  by_cases h26 : j < 26
  · exact head_bytes ha (wr_bytes hp hF) (by rw [wr_hdOf hp (by omega) hF]; exact hh) h26
  · rw [wr_rest P h (by omega) (by omega)]
    exact hr j (by omega) (by omega)
theorem hdOf_congr {P Q : List Nat} (hl : Q.length = P.length) (h : ∀ j, j < 26 → Q.getD j 0 = P.getD j 0) : hdOf Q = hdOf P := by
  have hr : ∀ a m, a + m ≤ 26 → rd Q a m = rd P a m := fun a m ham => rd_ext hl _ _ (fun i hi => h _ (by omega))
  rw [hdOf, hdOf, hr 0 4 (by omega), hr 18 4 (by omega), hr 22 4 (by omega), hr 4 8 (by omega), h 12 (by omega), h 13 (by omega), hr 14 2 (by omega), hr 16 2 (by omega)]
theorem hdOf_count {X : List Nat} (hz : ∀ c ∈ X, c < 256) (hl : X.length = 512) (a : Nat) (ha : a < 65536) : hdOf (lay X 14 a 2) = { hdOf X with count := a } := by
  have hr : ∀ q m, q + m ≤ 14 ∨ 16 ≤ q → rd (lay X 14 a 2) q m = rd X q m := fun q m h => rd_lay_other _ _ _ _ _ (by omega) (by omega)
  have hg : ∀ j, j < 14 → (lay X 14 a 2).getD j 0 = X.getD j 0 := fun j hj => by rw [lay_get _ _ _ _ (by omega), if_neg (by omega)]
  rw [hdOf, hr 0 4 (by omega), hr 18 4 (by omega), hr 22 4 (by omega), hr 4 8 (by omega), hg 12 (by omega), hg 13 (by omega), hr 16 2 (by omega), rd_lay_same hz 14 a 2 (by omega) (by omega)]
  rfl
theorem hdOf_low {X : List Nat} (hz : ∀ c ∈ X, c < 256) (hl : X.length = 512) (a : Nat) (ha : a < 65536) : hdOf (lay X 16 a 2) = { hdOf X with low := a } := by
  have hr : ∀ q m, q + m ≤ 16 ∨ 18 ≤ q → rd (lay X 16 a 2) q m = rd X q m := fun q m h => rd_lay_other _ _ _ _ _ (by omega) (by omega)
  have hg : ∀ j, j < 16 → (lay X 16 a 2).getD j 0 = X.getD j 0 := fun j hj => by rw [lay_get _ _ _ _ (by omega), if_neg (by omega)]
  rw [hdOf, hr 0 4 (by omega), hr 18 4 (by omega), hr 22 4 (by omega), hr 4 8 (by omega), hg 12 (by omega), hg 13 (by omega), hr 14 2 (by omega), rd_lay_same hz 16 a 2 (by omega) (by omega)]
  rfl
theorem hdOf_slotSet {X : List Nat} (hl : X.length = 512) (i x y : Nat) (hi : 30 + 4 * i ≤ 512) : hdOf (slotSet X i x y) = hdOf X :=
  hdOf_congr (slotSet_length _ _ _ _) (fun j hj => by rw [slotSet_get _ _ _ _ (by omega), if_neg (by omega), if_neg (by omega)])
theorem hdOf_splice {X cs : List Nat} (hl : X.length = 512) {off : Nat} (h : off + cs.length ≤ 512) (h26 : 26 ≤ off) : hdOf (splice X off cs) = hdOf X :=
  hdOf_congr (length_splice _ _ _ (by omega)) (fun j hj => by rw [splice_get _ _ _ (by omega), if_neg (by omega)])
theorem slotSet_bytes' {zs : List Nat} (hz : ∀ c ∈ zs, c < 256) (i x y : Nat) : ∀ c ∈ slotSet zs i x y, c < 256 := slotSet_bytes hz i x y
/-- The slots from k on moved up by one. -/
def shUp (R : List Nat) (n k : Nat) : List Nat := splice R (30 + 4 * k) ((R.drop (26 + 4 * k)).take (4 * (n - k)))
theorem shUp_part {R : List Nat} (hl : R.length = 512) {n k : Nat} (hk : k ≤ n) (hn : 30 + 4 * n ≤ 512) : ((R.drop (26 + 4 * k)).take (4 * (n - k))).length = 4 * (n - k) := by rw [List.length_take, List.length_drop]; omega
theorem shUp_length {R : List Nat} (hl : R.length = 512) {n k : Nat} (hk : k ≤ n) (hn : 30 + 4 * n ≤ 512) : (shUp R n k).length = 512 := by
  rw [shUp, length_splice _ _ _ (by rw [shUp_part hl hk hn]; omega)]; exact hl
theorem shUp_get {R : List Nat} (hl : R.length = 512) {n k : Nat} (hk : k ≤ n) (hn : 30 + 4 * n ≤ 512) (j : Nat) : (shUp R n k).getD j 0 = if 30 + 4 * k ≤ j ∧ j < 30 + 4 * n then R.getD (j - 4) 0 else R.getD j 0 := by
  rw [shUp, splice_get _ _ _ (by rw [shUp_part hl hk hn]; omega), shUp_part hl hk hn]
  by_cases h : 30 + 4 * k ≤ j ∧ j < 30 + 4 * n
  · rw [if_pos h, if_pos (by omega)]
    simp only [List.getD_eq_getElem?_getD]
    rw [List.getElem?_take, if_pos (by omega), List.getElem?_drop, show 26 + 4 * k + (j - (30 + 4 * k)) = j - 4 from by omega]
  · rw [if_neg h, if_neg (by omega)]
theorem shUp_bytes {R : List Nat} (hz : ∀ c ∈ R, c < 256) (n k : Nat) : ∀ c ∈ shUp R n k, c < 256 := splice_bytes hz (fun c h => hz c (List.mem_of_mem_drop (List.mem_of_mem_take h))) _
theorem shUp_top (R : List Nat) (n : Nat) : shUp R n n = R := by rw [shUp, Nat.sub_self, Nat.mul_zero, List.take_zero, splice_nil]
theorem shUp_step {R : List Nat} (hz : ∀ c ∈ R, c < 256) (hl : R.length = 512) {n k : Nat} (hk : k + 1 ≤ n) (hn : 30 + 4 * n ≤ 512) :
    rd (shUp R n (k + 1)) (26 + 4 * k) 2 = rd R (26 + 4 * k) 2 ∧ rd (shUp R n (k + 1)) (28 + 4 * k) 2 = rd R (28 + 4 * k) 2 ∧ slotSet (shUp R n (k + 1)) (k + 1) (rd R (26 + 4 * k) 2) (rd R (28 + 4 * k) 2) = shUp R n k := by
  have hL := shUp_length hl hk hn
  have hL' := shUp_length hl (show k ≤ n by omega) hn
  refine ⟨rd_ext (by rw [hL, hl]) _ _ (fun i hi => by rw [shUp_get hl hk hn, if_neg (by omega)]), rd_ext (by rw [hL, hl]) _ _ (fun i hi => by rw [shUp_get hl hk hn, if_neg (by omega)]), list_ext (by rw [slotSet_length, hL, hL']) (fun j hj => ?_)⟩
  rw [slotSet_get _ _ _ _ (by rw [hL]; omega), shUp_get hl hk hn, shUp_get hl (by omega) hn]
  by_cases h1 : 28 + 4 * (k + 1) ≤ j ∧ j < 28 + 4 * (k + 1) + 2
  · rw [if_pos h1, if_pos (by omega)]
    have := rd_byte hz (28 + 4 * k) 2 (j - (28 + 4 * (k + 1))) (by omega)
    rw [this, show 28 + 4 * k + (j - (28 + 4 * (k + 1))) = j - 4 from by omega]
  · rw [if_neg h1]
    by_cases h2 : 26 + 4 * (k + 1) ≤ j ∧ j < 26 + 4 * (k + 1) + 2
    · rw [if_pos h2, if_pos (by omega)]
      have := rd_byte hz (26 + 4 * k) 2 (j - (26 + 4 * (k + 1))) (by omega)
      rw [this, show 26 + 4 * k + (j - (26 + 4 * (k + 1))) = j - 4 from by omega]
    · rw [if_neg h2]
      by_cases h3 : 30 + 4 * (k + 1) ≤ j ∧ j < 30 + 4 * n
      · rw [if_pos h3, if_pos (by omega)]
      · rw [if_neg h3, if_neg (by omega)]
/-- The document's page with one cell more. -/
def refIns (R : List Nat) (n i lo : Nat) (cs : List Nat) : List Nat := splice (lay (lay (slotSet (shUp R n i) i lo cs.length) 14 (n + 1) 2) 16 lo 2) lo cs
theorem refIns_eq {R cs : List Nat} (hz : ∀ c ∈ R, c < 256) (hl : R.length = 512) (hc : ∀ c ∈ cs, c < 256) {i : Nat} (hi : i ≤ rd R 14 2) (hm : 30 + 4 * rd R 14 2 + cs.length ≤ rd R 16 2) (h5 : rd R 16 2 ≤ 512) :
    refIns R (rd R 14 2) i (rd R 16 2 - cs.length) cs = insertedH R (hdOf R) i cs := by
  obtain ⟨n, hn⟩ : ∃ n, n = rd R 14 2 := ⟨_, rfl⟩
  obtain ⟨lo, hlo⟩ : ∃ lo, lo = rd R 16 2 - cs.length := ⟨_, rfl⟩
  have hF := hdOf_fits hz (by omega : 26 ≤ R.length)
  rw [← hn] at hi hm ⊢
  have hll : lo + cs.length ≤ 512 := by omega
  have hlo30 : 30 + 4 * n ≤ lo := by omega
  have hS := shUp_length hl hi (by omega)
  have hSb := shUp_bytes hz n i
  have hX : (slotSet (shUp R n i) i lo cs.length).length = 512 := by rw [slotSet_length]; exact hS
  have hXb := slotSet_bytes hSb i lo cs.length
  have hY : (lay (slotSet (shUp R n i) i lo cs.length) 14 (n + 1) 2).length = 512 := by rw [lay_length]; exact hX
  have hYb := lay_bytes 14 (n + 1) hXb 2
  have hZ : (lay (lay (slotSet (shUp R n i) i lo cs.length) 14 (n + 1) 2) 16 lo 2).length = 512 := by rw [lay_length]; exact hY
  have hZb := lay_bytes 16 lo hYb 2
  have hP : (splice (shUp R n i) lo cs).length = 512 := splice_length' hS hll
  have hhd : hdOf (refIns R n i lo cs) = { { hdOf R with count := n + 1 } with low := lo } := by
    have hSR : hdOf (shUp R n i) = hdOf R := hdOf_congr (by rw [hS, hl]) (fun j hj => by rw [shUp_get hl hi (by omega), if_neg (by omega)])
    rw [refIns, hdOf_splice hZ hll (by omega), hdOf_low hYb hY _ (by omega), hdOf_count hXb hX _ (by omega), hdOf_slotSet hS _ _ _ (by omega), hSR]
  rw [← insertedH_eq, show (hdOf R).count = n from hn.symm, show (hdOf R).low - cs.length = lo from hlo.symm, ← hlo, pushed]
  refine wr_eq (splice_bytes hZb hc _) (slotSet_bytes' (splice_bytes hSb hc lo) i lo cs.length) (by rw [lay_length, lay_length]; exact hP) (splice_length' hZ hll) ⟨hF.1, hF.2.1, hF.2.2.1, hF.2.2.2.1, hF.2.2.2.2.1, hF.2.2.2.2.2.1, by show n + 1 < 65536; omega, by show lo < 65536; omega⟩ hhd (fun j h1 h2 => ?_)
  have hsl := slotSet_get (splice (shUp R n i) lo cs) i lo cs.length (by omega) j
  rw [slotSet] at hsl
  rw [show splice R (30 + 4 * i) ((R.drop (26 + 4 * i)).take (4 * (n - i))) = shUp R n i from rfl, hsl, refIns, splice_get _ _ _ (by omega), lay_get _ _ _ _ (by omega), if_neg (show ¬ (16 ≤ j ∧ j < 16 + 2) by omega), lay_get _ _ _ _ (by omega), if_neg (show ¬ (14 ≤ j ∧ j < 14 + 2) by omega), slotSet_get _ _ _ _ (by omega), splice_get _ _ _ (by omega)]
  by_cases h3 : lo ≤ j ∧ j < lo + cs.length
  · rw [if_pos h3, if_neg (by omega), if_neg (by omega), if_pos h3]
  · rw [if_neg h3, if_neg h3]
/-- The slots behind the i-th moved down by one, as far as the k-th. -/
def shDown (R : List Nat) (i k : Nat) : List Nat := splice R (26 + 4 * i) ((R.drop (30 + 4 * i)).take (4 * (k - i)))
theorem shDown_part {R : List Nat} (hl : R.length = 512) {i k : Nat} (hk : i ≤ k) (hn : 30 + 4 * k ≤ 512) : ((R.drop (30 + 4 * i)).take (4 * (k - i))).length = 4 * (k - i) := by rw [List.length_take, List.length_drop]; omega
theorem shDown_length {R : List Nat} (hl : R.length = 512) {i k : Nat} (hk : i ≤ k) (hn : 30 + 4 * k ≤ 512) : (shDown R i k).length = 512 := by
  rw [shDown, length_splice _ _ _ (by rw [shDown_part hl hk hn]; omega)]; exact hl
theorem shDown_get {R : List Nat} (hl : R.length = 512) {i k : Nat} (hk : i ≤ k) (hn : 30 + 4 * k ≤ 512) (j : Nat) : (shDown R i k).getD j 0 = if 26 + 4 * i ≤ j ∧ j < 26 + 4 * k then R.getD (j + 4) 0 else R.getD j 0 := by
  rw [shDown, splice_get _ _ _ (by rw [shDown_part hl hk hn]; omega), shDown_part hl hk hn]
  by_cases h : 26 + 4 * i ≤ j ∧ j < 26 + 4 * k
  · rw [if_pos h, if_pos (by omega)]
    simp only [List.getD_eq_getElem?_getD]
    rw [List.getElem?_take, if_pos (by omega), List.getElem?_drop, show 30 + 4 * i + (j - (26 + 4 * i)) = j + 4 from by omega]
  · rw [if_neg h, if_neg (by omega)]
theorem shDown_bytes {R : List Nat} (hz : ∀ c ∈ R, c < 256) (i k : Nat) : ∀ c ∈ shDown R i k, c < 256 := splice_bytes hz (fun c h => hz c (List.mem_of_mem_drop (List.mem_of_mem_take h))) _
theorem shDown_first (R : List Nat) (i : Nat) : shDown R i i = R := by rw [shDown, Nat.sub_self, Nat.mul_zero, List.take_zero, splice_nil]
theorem shDown_step {R : List Nat} (hz : ∀ c ∈ R, c < 256) (hl : R.length = 512) {i k : Nat} (hk : i ≤ k) (hn : 34 + 4 * k ≤ 512) :
    slotSet (shDown R i k) k (rd R (30 + 4 * k) 2) (rd R (32 + 4 * k) 2) = shDown R i (k + 1) := by
  have hL := shDown_length hl hk (by omega)
  have hL' := shDown_length hl (show i ≤ k + 1 by omega) (by omega)
  refine list_ext (by rw [slotSet_length, hL, hL']) (fun j hj => ?_)
  rw [slotSet_get _ _ _ _ (by rw [hL]; omega), shDown_get hl hk (by omega), shDown_get hl (by omega) (by omega)]
  by_cases h1 : 28 + 4 * k ≤ j ∧ j < 28 + 4 * k + 2
  · rw [if_pos h1, if_pos (by omega), rd_byte hz (32 + 4 * k) 2 (j - (28 + 4 * k)) (by omega), show 32 + 4 * k + (j - (28 + 4 * k)) = j + 4 from by omega]
  · rw [if_neg h1]
    by_cases h2 : 26 + 4 * k ≤ j ∧ j < 26 + 4 * k + 2
    · rw [if_pos h2, if_pos (by omega), rd_byte hz (30 + 4 * k) 2 (j - (26 + 4 * k)) (by omega), show 30 + 4 * k + (j - (26 + 4 * k)) = j + 4 from by omega]
    · rw [if_neg h2]
      by_cases h3 : 26 + 4 * i ≤ j ∧ j < 26 + 4 * k
      · rw [if_pos h3, if_pos (by omega)]
      · rw [if_neg h3, if_neg (by omega)]
/-- The document's page without its i-th cell. -/
def refRem (zs : List Nat) (n i : Nat) : List Nat :=
  if n = 1 then lay (lay (lay (shDown zs i (n - 1)) (22 + 4 * n) 0 4) 14 (n - 1) 2) 16 512 2 else lay (lay (shDown zs i (n - 1)) (22 + 4 * n) 0 4) 14 (n - 1) 2
theorem refRem_eq {zs : List Nat} (hz : ∀ c ∈ zs, c < 256) (hg : Good zs) {i : Nat} (hi : i < rd zs 14 2) : refRem zs (rd zs 14 2) i = removed zs i := by
  have hl := hg.1
  have h1 := hg.2.2.1
  have h2 := hg.2.2.2.1
  have hF := hdOf_fits hz (by omega : 26 ≤ zs.length)
  have hS := shDown_length hl (show i ≤ rd zs 14 2 - 1 by omega) (by omega)
  have hSb := shDown_bytes hz i (rd zs 14 2 - 1)
  have hX : (lay (shDown zs i (rd zs 14 2 - 1)) (22 + 4 * rd zs 14 2) 0 4).length = 512 := by rw [lay_length]; exact hS
  have hXb := lay_bytes (22 + 4 * rd zs 14 2) 0 hSb 4
  have hY : (lay (lay (shDown zs i (rd zs 14 2 - 1)) (22 + 4 * rd zs 14 2) 0 4) 14 (rd zs 14 2 - 1) 2).length = 512 := by rw [lay_length]; exact hX
  have hYb := lay_bytes 14 (rd zs 14 2 - 1) hXb 2
  have hhX : hdOf (lay (shDown zs i (rd zs 14 2 - 1)) (22 + 4 * rd zs 14 2) 0 4) = hdOf zs :=
    hdOf_congr (by rw [hX, hl]) (fun j hj => by rw [lay_get _ _ _ _ (by omega), if_neg (by omega), shDown_get hl (by omega) (by omega), if_neg (by omega)])
  rw [← removed_eq, show splice zs (26 + 4 * i) ((zs.drop (30 + 4 * i)).take (4 * (rd zs 14 2 - 1 - i))) = shDown zs i (rd zs 14 2 - 1) from rfl, refRem]
  by_cases e : rd zs 14 2 = 1
  · rw [if_pos e, if_pos e]
    refine wr_eq (lay_bytes 16 512 hYb 2) hXb hX (by rw [lay_length]; exact hY) ⟨hF.1, hF.2.1, hF.2.2.1, hF.2.2.2.1, hF.2.2.2.2.1, hF.2.2.2.2.2.1, by show rd zs 14 2 - 1 < 65536; omega, by show 512 < 65536; omega⟩ ?_ (fun j h3 h4 => ?_)
    · rw [hdOf_low hYb hY _ (by omega), hdOf_count hXb hX _ (by omega), hhX]
    · rw [lay_get _ _ _ _ (by omega), if_neg (show ¬ (16 ≤ j ∧ j < 16 + 2) by omega), lay_get _ _ _ _ (by omega), if_neg (show ¬ (14 ≤ j ∧ j < 14 + 2) by omega)]
  · rw [if_neg e, if_neg e]
    refine wr_eq hYb hXb hX hY ⟨hF.1, hF.2.1, hF.2.2.1, hF.2.2.2.1, hF.2.2.2.2.1, hF.2.2.2.2.2.1, by show rd zs 14 2 - 1 < 65536; omega, by show rd zs 16 2 < 65536; omega⟩ ?_ (fun j h3 h4 => ?_)
    · rw [hdOf_count hXb hX _ (by omega), hhX]
      rfl
    · rw [lay_get _ _ _ _ (by omega), if_neg (show ¬ (14 ≤ j ∧ j < 14 + 2) by omega)]
end Go.Proofs.Ytmojfhleelhghaa
