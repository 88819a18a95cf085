/- Pages that the document makes, and those that the program makes: plain facts. -/
import Derived.Test.YtaadeoobmclpcaaPagReplace
import Derived.Test.YtaadeoobmclpcaaPagRefComp
namespace Go.Proofs.Ytaadeoobmclpcaa

theorem wr_eq {A P : List Nat} {h : Hd} (ha : ∀ c ∈ A, c < 256) (hp : ∀ c ∈ P, c < 256) (hl : P.length = 512) (hl' : A.length = 512) (hF : h.Fits) (hh : hdOf A = h) (hr : ∀ j, 26 ≤ j → j < 512 → A.getD j 0 = P.getD j 0) : A = wr P h := by
  refine list_ext (by rw [wr_length, hl, hl']) (fun j hj => ?_)
  by_cases h26 : j < 26
  · exact head_bytes ha (wr_bytes hp hF) (by rw [wr_hdOf hp (by omega) hF]; exact hh) h26
  · rw [wr_rest P h (by omega) (by omega)]
    exact hr j (by omega) (by omega)
theorem hdOf_congr {P Q : List Nat} (hl : Q.length = P.length) (h : ∀ j, j < 26 → Q.getD j 0 = P.getD j 0) : hdOf Q = hdOf P := by
  have hr : ∀ a m, a + m ≤ 26 → rd Q a m = rd P a m := fun a m ham => rd_ext hl _ _ (fun i hi => h _ (by omega))
  rw [hdOf, hdOf, hr 0 4 (by omega), hr 18 4 (by omega), hr 22 4 (by omega), hr 4 8 (by omega), h 12 (by omega), h 13 (by omega), hr 14 2 (by omega), hr 16 2 (by omega)]
theorem hdOf_count {X : List Nat} (hz : ∀ c ∈ X, c < 256) (hl : X.length = 512) (a : Nat) (ha : a < 65536) : hdOf (lay X 14 a 2) = { hdOf X with count := a } := by
  have hr : ∀ q m, q + m ≤ 14 ∨ 16 ≤ q → rd (lay X 14 a 2) q m = rd X q m := fun q m h => rd_lay_other _ _ _ _ _ (by omega) (by omega)
  have hg : ∀ j, j < 14 → (lay X 14 a 2).getD j 0 = X.getD j 0 := fun j hj => by rw [lay_get _ _ _ _ (by omega), if_neg (by omega)]
  rw [hdOf, hr 0 4 (by omega), hr 18 4 (by omega), hr 22 4 (by omega), hr 4 8 (by omega), hg 12 (by omega), hg 13 (by omega), hr 16 2 (by omega), rd_lay_same hz 14 a 2 (by omega) (by omega)]
  rfl
theorem hdOf_low {X : List Nat} (hz : ∀ c ∈ X, c < 256) (hl : X.length = 512) (a : Nat) (ha : a < 65536) : hdOf (lay X 16 a 2) = { hdOf X with low := a } := by
  have hr : ∀ q m, q + m ≤ 16 ∨ 18 ≤ q → rd (lay X 16 a 2) q m = rd X q m := fun q m h => rd_lay_other _ _ _ _ _ (by omega) (by omega)
  have hg : ∀ j, j < 16 → (lay X 16 a 2).getD j 0 = X.getD j 0 := fun j hj => by rw [lay_get _ _ _ _ (by omega), if_neg (by omega)]
  rw [hdOf, hr 0 4 (by omega), hr 18 4 (by omega), hr 22 4 (by omega), hr 4 8 (by omega), hg 12 (by omega), hg 13 (by omega), hr 14 2 (by omega), rd_lay_same hz 16 a 2 (by omega) (by omega)]
  rfl
theorem hdOf_slotSet {X : List Nat} (hl : X.length = 512) (i x y : Nat) (hi : 30 + 4 * i ≤ 512) : hdOf (slotSet X i x y) = hdOf X :=
  hdOf_congr (slotSet_length _ _ _ _) (fun j hj => by rw [slotSet_get _ _ _ _ (by omega), if_neg (by omega), if_neg (by omega)])
theorem hdOf_splice {X cs : List Nat} (hl : X.length = 512) {off : Nat} (h : off + cs.length ≤ 512) (h26 : 26 ≤ off) : hdOf (splice X off cs) = hdOf X :=
  hdOf_congr (length_splice _ _ _ (by omega)) (fun j hj => by rw [splice_get _ _ _ (by omega), if_neg (by omega)])
theorem slotSet_bytes' {zs : List Nat} (hz : ∀ c ∈ zs, c < 256) (i x y : Nat) : ∀ c ∈ slotSet zs i x y, c < 256 := slotSet_bytes hz i x y
/-- The slots from k on moved up by one. -/
def shUp (R : List Nat) (n k : Nat) : List Nat := splice R (30 + 4 * k) ((R.drop (26 + 4 * k)).take (4 * (n - k)))
theorem shUp_part {R : List Nat} (hl : R.length = 512) {n k : Nat} (hk : k ≤ n) (hn : 30 + 4 * n ≤ 512) : ((R.drop (26 + 4 * k)).take (4 * (n - k))).length = 4 * (n - k) := by rw [List.length_take, List.length_drop]; omega
theorem shUp_length {R : List Nat} (hl : R.length = 512) {n k : Nat} (hk : k ≤ n) (hn : 30 + 4 * n ≤ 512) : (shUp R n k).length = 512 := by
  rw [shUp, length_splice _ _ _ (by rw [shUp_part hl hk hn]; omega)]; exact hl
theorem shUp_get {R : List Nat} (hl : R.length = 512) {n k : Nat} (hk : k ≤ n) (hn : 30 + 4 * n ≤ 512) (j : Nat) : (shUp R n k).getD j 0 = if 30 + 4 * k ≤ j ∧ j < 30 + 4 * n then R.getD (j - 4) 0 else R.getD j 0 := by
  rw [shUp, splice_get _ _ _ (by rw [shUp_part hl hk hn]; omega), shUp_part hl hk hn]
  by_cases h : 30 + 4 * k ≤ j ∧ j < 30 + 4 * n
  · rw [if_pos h, if_pos (by omega)]
    simp only [List.getD_eq_getElem?_getD]
    rw [List.getElem?_take, if_pos (by omega), List.getElem?_drop, show 26 + 4 * k + (j - (30 + 4 * k)) = j - 4 from by omega]
  · rw [if_neg h, if_neg (by omega)]
theorem shUp_bytes {R : List Nat} (hz : ∀ c ∈ R, c < 256) (n k : Nat) : ∀ c ∈ shUp R n k, c < 256 := splice_bytes hz (fun c h => hz c (List.mem_of_mem_drop (List.mem_of_mem_take h))) _
theorem shUp_top (R : List Nat) (n : Nat) : shUp R n n = R := by rw [shUp, Nat.sub_self, Nat.mul_zero, List.take_zero, splice_nil]
theorem shUp_step {R : List Nat} (hz : ∀ c ∈ R, c < 256) (hl : R.length = 512) {n k : Nat} (hk : k + 1 ≤ n) (hn : 30 + 4 * n ≤ 512) :
    rd (shUp R n (k + 1)) (26 + 4 * k) 2 = rd R (26 + 4 * k) 2 ∧ rd (shUp R n (k + 1)) (28 + 4 * k) 2 = rd R (28 + 4 * k) 2 ∧ slotSet (shUp R n (k + 1)) (k + 1) (rd R (26 + 4 * k) 2) (rd R (28 + 4 * k) 2) = shUp R n k := by
  have hL := shUp_length hl hk hn
  have hL' := shUp_length hl (show k ≤ n by omega) hn
  refine ⟨rd_ext (by rw [hL, hl]) _ _ (fun i hi => by rw [shUp_get hl hk hn, if_neg (by omega)]), rd_ext (by rw [hL, hl]) _ _ (fun i hi => by rw [shUp_get hl hk hn, if_neg (by omega)]), list_ext (by rw [slotSet_length, hL, hL']) (fun j hj => ?_)⟩
  rw [slotSet_get _ _ _ _ (by rw [hL]; omega), shUp_get hl hk hn, shUp_get hl (by omega) hn]
  by_cases h1 : 28 + 4 * (k + 1) ≤ j ∧ j < 28 + 4 * (k + 1) + 2
  · rw [if_pos h1, if_pos (by omega)]
    have := rd_byte hz (28 + 4 * k) 2 (j - (28 + 4 * (k + 1))) (by omega)
    rw [this, show 28 + 4 * k + (j - (28 + 4 * (k + 1))) = j - 4 from by omega]
  · rw [if_neg h1]
    by_cases h2 : 26 + 4 * (k + 1) ≤ j ∧ j < 26 + 4 * (k + 1) + 2
    · rw [if_pos h2, if_pos (by omega)]
      have := rd_byte hz (26 + 4 * k) 2 (j - (26 + 4 * (k + 1))) (by omega)
      rw [this, show 26 + 4 * k + (j - (26 + 4 * (k + 1))) = j - 4 from by omega]
    · rw [if_neg h2]
      by_cases h3 : 30 + 4 * (k + 1) ≤ j ∧ j < 30 + 4 * n
      · rw [if_pos h3, if_pos (by omega)]
      · rw [if_neg h3, if_neg (by omega)]
/-- The document's page with one cell more. -/
def refIns (R : List Nat) (n i lo : Nat) (cs : List Nat) : List Nat := splice (lay (lay (slotSet (shUp R n i) i lo cs.length) 14 (n + 1) 2) 16 lo 2) lo cs
theorem refIns_eq {R cs : List Nat} (hz : ∀ c ∈ R, c < 256) (hl : R.length = 512) (hc : ∀ c ∈ cs, c < 256) {i : Nat} (hi : i ≤ rd R 14 2) (hm : 30 + 4 * rd R 14 2 + cs.length ≤ rd R 16 2) (h5 : rd R 16 2 ≤ 512) :
    refIns R (rd R 14 2) i (rd R 16 2 - cs.length) cs = insertedH R (hdOf R) i cs := by
  obtain ⟨n, hn⟩ : ∃ n, n = rd R 14 2 := ⟨_, rfl⟩
  obtain ⟨lo, hlo⟩ : ∃ lo, lo = rd R 16 2 - cs.length := ⟨_, rfl⟩
  have hF := hdOf_fits hz (by omega : 26 ≤ R.length)
  rw [← hn] at hi hm ⊢
  have hll : lo + cs.length ≤ 512 := by omega
  have hlo30 : 30 + 4 * n ≤ lo := by omega
  have hS := shUp_length hl hi (by omega)
  have hSb := shUp_bytes hz n i
  have hX : (slotSet (shUp R n i) i lo cs.length).length = 512 := by rw [slotSet_length]; exact hS
  have hXb := slotSet_bytes hSb i lo cs.length
  have hY : (lay (slotSet (shUp R n i) i lo cs.length) 14 (n + 1) 2).length = 512 := by rw [lay_length]; exact hX
  have hYb := lay_bytes 14 (n + 1) hXb 2
  have hZ : (lay (lay (slotSet (shUp R n i) i lo cs.length) 14 (n + 1) 2) 16 lo 2).length = 512 := by rw [lay_length]; exact hY
  have hZb := lay_bytes 16 lo hYb 2
  have hP : (splice (shUp R n i) lo cs).length = 512 := splice_length' hS hll
  have hhd : hdOf (refIns R n i lo cs) = { { hdOf R with count := n + 1 } with low := lo } := by
    have hSR : hdOf (shUp R n i) = hdOf R := hdOf_congr (by rw [hS, hl]) (fun j hj => by rw [shUp_get hl hi (by omega), if_neg (by omega)])
    rw [refIns, hdOf_splice hZ hll (by omega), hdOf_low hYb hY _ (by omega), hdOf_count hXb hX _ (by omega), hdOf_slotSet hS _ _ _ (by omega), hSR]
  rw [← insertedH_eq, show (hdOf R).count = n from hn.symm, show (hdOf R).low - cs.length = lo from hlo.symm, ← hlo, pushed]
  refine wr_eq (splice_bytes hZb hc _) (slotSet_bytes' (splice_bytes hSb hc lo) i lo cs.length) (by rw [lay_length, lay_length]; exact hP) (splice_length' hZ hll) ⟨hF.1, hF.2.1, hF.2.2.1, hF.2.2.2.1, hF.2.2.2.2.1, hF.2.2.2.2.2.1, by show n + 1 < 65536; omega, by show lo < 65536; omega⟩ hhd (fun j h1 h2 => ?_)
  have hsl := slotSet_get (splice (shUp R n i) lo cs) i lo cs.length (by omega) j
  rw [slotSet] at hsl
  rw [show splice R (30 + 4 * i) ((R.drop (26 + 4 * i)).take (4 * (n - i))) = shUp R n i from rfl, hsl, refIns, splice_get _ _ _ (by omega), lay_get _ _ _ _ (by omega), if_neg (show ¬ (16 ≤ j ∧ j < 16 + 2) by omega), lay_get _ _ _ _ (by omega), if_neg (show ¬ (14 ≤ j ∧ j < 14 + 2) by omega), slotSet_get _ _ _ _ (by omega), splice_get _ _ _ (by omega)]
  by_cases h3 : lo ≤ j ∧ j < lo + cs.length
  · rw [if_pos h3, if_neg (by omega), if_neg (by omega), if_pos h3]
  · rw [if_neg h3, if_neg h3]
/-- The slots behind the i-th moved down by one, as far as the k-th. -/
def shDown (R : List Nat) (i k : Nat) : List Nat := splice R (26 + 4 * i) ((R.drop (30 + 4 * i)).take (4 * (k - i)))
theorem shDown_part {R : List Nat} (hl : R.length = 512) {i k : Nat} (hk : i ≤ k) (hn : 30 + 4 * k ≤ 512) : ((R.drop (30 + 4 * i)).take (4 * (k - i))).length = 4 * (k - i) := by rw [List.length_take, List.length_drop]; omega
theorem shDown_length {R : List Nat} (hl : R.length = 512) {i k : Nat} (hk : i ≤ k) (hn : 30 + 4 * k ≤ 512) : (shDown R i k).length = 512 := by
  rw [shDown, length_splice _ _ _ (by rw [shDown_part hl hk hn]; omega)]; exact hl
theorem shDown_get {R : List Nat} (hl : R.length = 512) {i k : Nat} (hk : i ≤ k) (hn : 30 + 4 * k ≤ 512) (j : Nat) : (shDown R i k).getD j 0 = if 26 + 4 * i ≤ j ∧ j < 26 + 4 * k then R.getD (j + 4) 0 else R.getD j 0 := by
  rw [shDown, splice_get _ _ _ (by rw [shDown_part hl hk hn]; omega), shDown_part hl hk hn]
  by_cases h : 26 + 4 * i ≤ j ∧ j < 26 + 4 * k
  · rw [if_pos h, if_pos (by omega)]
    simp only [List.getD_eq_getElem?_getD]
    rw [List.getElem?_take, if_pos (by omega), List.getElem?_drop, show 30 + 4 * i + (j - (26 + 4 * i)) = j + 4 from by omega]
  · rw [if_neg h, if_neg (by omega)]
theorem shDown_bytes {R : List Nat} (hz : ∀ c ∈ R, c < 256) (i k : Nat) : ∀ c ∈ shDown R i k, c < 256 := splice_bytes hz (fun c h => hz c (List.mem_of_mem_drop (List.mem_of_mem_take h))) _
theorem shDown_first (R : List Nat) (i : Nat) : shDown R i i = R := by rw [shDown, Nat.sub_self, Nat.mul_zero, List.take_zero, splice_nil]
theorem shDown_step {R : List Nat} (hz : ∀ c ∈ R, c < 256) (hl : R.length = 512) {i k : Nat} (hk : i ≤ k) (hn : 34 + 4 * k ≤ 512) :
    slotSet (shDown R i k) k (rd R (30 + 4 * k) 2) (rd R (32 + 4 * k) 2) = shDown R i (k + 1) := by
  have hL := shDown_length hl hk (by omega)
  have hL' := shDown_length hl (show i ≤ k + 1 by omega) (by omega)
  refine list_ext (by rw [slotSet_length, hL, hL']) (fun j hj => ?_)
  rw [slotSet_get _ _ _ _ (by rw [hL]; omega), shDown_get hl hk (by omega), shDown_get hl (by omega) (by omega)]
  by_cases h1 : 28 + 4 * k ≤ j ∧ j < 28 + 4 * k + 2
  · rw [if_pos h1, if_pos (by omega), rd_byte hz (32 + 4 * k) 2 (j - (28 + 4 * k)) (by omega), show 32 + 4 * k + (j - (28 + 4 * k)) = j + 4 from by omega]
  · rw [if_neg h1]
    by_cases h2 : 26 + 4 * k ≤ j ∧ j < 26 + 4 * k + 2
    · rw [if_pos h2, if_pos (by omega), rd_byte hz (30 + 4 * k) 2 (j - (26 + 4 * k)) (by omega), show 30 + 4 * k + (j - (26 + 4 * k)) = j + 4 from by omega]
    · rw [if_neg h2]
      by_cases h3 : 26 + 4 * i ≤ j ∧ j < 26 + 4 * k
      · rw [if_pos h3, if_pos (by omega)]
      · rw [if_neg h3, if_neg (by omega)]
/-- The document's page without its i-th cell. -/
def refRem (zs : List Nat) (n i : Nat) : List Nat :=
  if n = 1 then lay (lay (lay (shDown zs i (n - 1)) (22 + 4 * n) 0 4) 14 (n - 1) 2) 16 512 2 else lay (lay (shDown zs i (n - 1)) (22 + 4 * n) 0 4) 14 (n - 1) 2
theorem refRem_eq {zs : List Nat} (hz : ∀ c ∈ zs, c < 256) (hg : Good zs) {i : Nat} (hi : i < rd zs 14 2) : refRem zs (rd zs 14 2) i = removed zs i := by
  have hl := hg.1
  have h1 := hg.2.2.1
  have h2 := hg.2.2.2.1
  have hF := hdOf_fits hz (by omega : 26 ≤ zs.length)
  have hS := shDown_length hl (show i ≤ rd zs 14 2 - 1 by omega) (by omega)
  have hSb := shDown_bytes hz i (rd zs 14 2 - 1)
  have hX : (lay (shDown zs i (rd zs 14 2 - 1)) (22 + 4 * rd zs 14 2) 0 4).length = 512 := by rw [lay_length]; exact hS
  have hXb := lay_bytes (22 + 4 * rd zs 14 2) 0 hSb 4
  have hY : (lay (lay (shDown zs i (rd zs 14 2 - 1)) (22 + 4 * rd zs 14 2) 0 4) 14 (rd zs 14 2 - 1) 2).length = 512 := by rw [lay_length]; exact hX
  have hYb := lay_bytes 14 (rd zs 14 2 - 1) hXb 2
  have hhX : hdOf (lay (shDown zs i (rd zs 14 2 - 1)) (22 + 4 * rd zs 14 2) 0 4) = hdOf zs :=
    hdOf_congr (by rw [hX, hl]) (fun j hj => by rw [lay_get _ _ _ _ (by omega), if_neg (by omega), shDown_get hl (by omega) (by omega), if_neg (by omega)])
  rw [← removed_eq, show splice zs (26 + 4 * i) ((zs.drop (30 + 4 * i)).take (4 * (rd zs 14 2 - 1 - i))) = shDown zs i (rd zs 14 2 - 1) from rfl, refRem]
  by_cases e : rd zs 14 2 = 1
  · rw [if_pos e, if_pos e]
    refine wr_eq (lay_bytes 16 512 hYb 2) hXb hX (by rw [lay_length]; exact hY) ⟨hF.1, hF.2.1, hF.2.2.1, hF.2.2.2.1, hF.2.2.2.2.1, hF.2.2.2.2.2.1, by show rd zs 14 2 - 1 < 65536; omega, by show 512 < 65536; omega⟩ ?_ (fun j h3 h4 => ?_)
    · rw [hdOf_low hYb hY _ (by omega), hdOf_count hXb hX _ (by omega), hhX]
    · rw [lay_get _ _ _ _ (by omega), if_neg (show ¬ (16 ≤ j ∧ j < 16 + 2) by omega), lay_get _ _ _ _ (by omega), if_neg (show ¬ (14 ≤ j ∧ j < 14 + 2) by omega)]
  · rw [if_neg e, if_neg e]
    refine wr_eq hYb hXb hX hY ⟨hF.1, hF.2.1, hF.2.2.1, hF.2.2.2.1, hF.2.2.2.2.1, hF.2.2.2.2.2.1, by show rd zs 14 2 - 1 < 65536; omega, by show rd zs 16 2 < 65536; omega⟩ ?_ (fun j h3 h4 => ?_)
    · rw [hdOf_count hXb hX _ (by omega), hhX]
      rfl
    · rw [lay_get _ _ _ _ (by omega), if_neg (show ¬ (14 ≤ j ∧ j < 14 + 2) by omega)]
end Go.Proofs.Ytaadeoobmclpcaa
namespace Go.Proofs.Ytaadeoobmclpcaa
open Go.ChangeShapes Go.WideShapes Go.ChangeAt Go.RowKit

/-- What the document's Insert and Replace tell. -/
def InsOut (w : World) (R : List Nat) (e : Ending) (w' : World) : Prop := ∃ g c, e = .returned (.tuple #[.slice (some ⟨g, 0, none⟩) 512 c, .bool true]) ∧ Has w' g R ∧ w.heap.size ≤ g ∧ Below w.heap.size w w'
theorem slotSet_lay (Z : List Nat) (k x y : Nat) : lay (lay Z (26 + 4 * k) x 2) (28 + 4 * k) y 2 = slotSet Z k x y := rfl
attribute [local irreducible] shUp slotSet relaid refComp lay splice insOf
end Go.Proofs.Ytaadeoobmclpcaa
namespace Go.Proofs.Ytaadeoobmclpcaa
open Go.ChangeShapes Go.WideShapes Go.ChangeAt Go.RowKit

attribute [local irreducible] shDown slotSet lay splice removed refRem
end Go.Proofs.Ytaadeoobmclpcaa
namespace Go.Proofs.Ytaadeoobmclpcaa

theorem hdOf_lay_hi {X : List Nat} (hl : X.length = 512) (q x m : Nat) (hq : 26 ≤ q) (h : q + m ≤ 512) : hdOf (lay X q x m) = hdOf X :=
  hdOf_congr (lay_length _ _ _ _) (fun j hj => by rw [lay_get _ _ _ _ (by omega), if_neg (by omega)])
theorem lay_same {zs : List Nat} (hz : ∀ c ∈ zs, c < 256) (q : Nat) (h : q + 2 ≤ zs.length) : lay zs q (rd zs q 2) 2 = zs := by
  refine list_ext (lay_length _ _ _ _) (fun j hj => ?_)
  rw [lay_get _ _ _ _ h]
  by_cases h1 : q ≤ j ∧ j < q + 2
  · rw [if_pos h1, rd_byte hz q 2 (j - q) (by omega), show q + (j - q) = j from by omega]
  · rw [if_neg h1]
theorem repIn_eq {zs cs : List Nat} (hz : ∀ c ∈ zs, c < 256) (hl : zs.length = 512) {i : Nat} (hi : 30 + 4 * i ≤ rd zs (26 + 4 * i) 2) (h : rd zs (26 + 4 * i) 2 + cs.length ≤ 512) :
    splice (lay zs (28 + 4 * i) cs.length 2) (rd zs (26 + 4 * i) 2) cs = repIn zs i cs := by
  have h1 : (lay zs (28 + 4 * i) cs.length 2).length = 512 := by rw [lay_length]; exact hl
  have h2 : (splice zs (rd zs (26 + 4 * i) 2) cs).length = 512 := splice_length' hl h
  rw [repIn]
  refine list_ext (by rw [splice_length' h1 h, slotSet_length]; exact h2.symm) (fun j hj => ?_)
  rw [splice_get _ _ _ (by omega), slotSet_get _ _ _ _ (by omega), splice_get _ _ _ (by omega), lay_get _ _ _ _ (by omega)]
  by_cases h3 : rd zs (26 + 4 * i) 2 ≤ j ∧ j < rd zs (26 + 4 * i) 2 + cs.length
  · rw [if_pos h3, if_neg (by omega), if_neg (by omega), if_pos h3]
  · rw [if_neg h3]
    by_cases h4 : 28 + 4 * i ≤ j ∧ j < 28 + 4 * i + 2
    · rw [if_pos h4, if_pos h4]
    · rw [if_neg h4, if_neg h4]
      by_cases h5 : 26 + 4 * i ≤ j ∧ j < 26 + 4 * i + 2
      · rw [if_pos h5, rd_byte hz (26 + 4 * i) 2 (j - (26 + 4 * i)) (by omega), show 26 + 4 * i + (j - (26 + 4 * i)) = j from by omega]
      · rw [if_neg h5, if_neg h3]
/-- The bytes of a larger cell laid in, as the document says it. -/
def refPush (X : List Nat) (i a : Nat) (cs : List Nat) : List Nat := splice (lay (lay (lay X 16 a 2) (26 + 4 * i) a 2) (28 + 4 * i) cs.length 2) a cs
theorem refPush_eq {X Y cs : List Nat} (hz : ∀ c ∈ X, c < 256) (hy : ∀ c ∈ Y, c < 256) (hl : X.length = 512) (hl' : Y.length = 512) (hc : ∀ c ∈ cs, c < 256) {i a : Nat} {H : Hd} (hF : H.Fits) (hh : { hdOf X with low := a } = { H with low := a })
    (hi : 30 + 4 * i ≤ a) (ha : a + cs.length ≤ 512) (hr : ∀ j, j < 26 + 4 * i ∨ 30 + 4 * i ≤ j → 26 ≤ j → j < 512 → X.getD j 0 = Y.getD j 0) : refPush X i a cs = pushed Y H i a cs := by
  have l1 : (lay X 16 a 2).length = 512 := by rw [lay_length]; exact hl
  have l2 : (lay (lay X 16 a 2) (26 + 4 * i) a 2).length = 512 := by rw [lay_length]; exact l1
  have l3 : (lay (lay (lay X 16 a 2) (26 + 4 * i) a 2) (28 + 4 * i) cs.length 2).length = 512 := by rw [lay_length]; exact l2
  have m1 : (splice Y a cs).length = 512 := splice_length' hl' ha
  have m2 : (lay (splice Y a cs) (26 + 4 * i) a 2).length = 512 := by rw [lay_length]; exact m1
  have m3 : (lay (lay (splice Y a cs) (26 + 4 * i) a 2) (28 + 4 * i) cs.length 2).length = 512 := by rw [lay_length]; exact m2
  rw [refPush, pushed]
  refine wr_eq (splice_bytes (lay_bytes _ _ (lay_bytes _ _ (lay_bytes _ _ hz _) _) _) hc _) (lay_bytes _ _ (lay_bytes _ _ (splice_bytes hy hc _) _) _) m3 (splice_length' l3 ha) ⟨hF.1, hF.2.1, hF.2.2.1, hF.2.2.2.1, hF.2.2.2.2.1, hF.2.2.2.2.2.1, hF.2.2.2.2.2.2.1, by show a < 65536; omega⟩ ?_ (fun j h1 h2 => ?_)
  · rw [hdOf_splice l3 ha (by omega), hdOf_lay_hi l2 _ _ _ (by omega) (by omega), hdOf_lay_hi l1 _ _ _ (by omega) (by omega), hdOf_low hz hl _ (by omega)]
    exact hh
  · rw [splice_get _ _ _ (by omega), lay_get _ _ _ _ (by omega), lay_get _ _ _ _ (by omega), lay_get _ _ _ _ (by omega), if_neg (show ¬ (16 ≤ j ∧ j < 16 + 2) by omega), lay_get _ _ _ _ (by omega), lay_get _ _ _ _ (by omega), splice_get _ _ _ (by omega)]
    by_cases h3 : a ≤ j ∧ j < a + cs.length
    · rw [if_pos h3, if_neg (by omega), if_neg (by omega), if_pos h3]
    · rw [if_neg h3, if_neg h3]
      by_cases h4 : 28 + 4 * i ≤ j ∧ j < 28 + 4 * i + 2
      · rw [if_pos h4, if_pos h4]
      · rw [if_neg h4, if_neg h4]
        by_cases h5 : 26 + 4 * i ≤ j ∧ j < 26 + 4 * i + 2
        · rw [if_pos h5, if_pos h5]
        · rw [if_neg h5, if_neg h5]
          exact hr j (by omega) h1 h2
/-- What a page laid out anew holds, with the room of its cells alone. -/
theorem relaid_is' {zs : List Nat} (hz : ∀ c ∈ zs, c < 256) (hl : zs.length = 512) (hf : Fitting zs (rd zs 14 2)) : Relaid zs (relaid zs (hdOf zs)) := by
  have h1 := hf.1
  have h := relTo_all hz hl hf _ (Nat.le_refl _)
  have hF := hdRel_fits hz hl
  have h26 : 26 ≤ (relOut zs (rd zs 14 2) (rd zs 14 2)).length := by rw [h.len]; decide
  rw [relaid_eq]
  refine ⟨by rw [wr_length]; exact h.len, wr_bytes h.byte hF, wr_hdOf h.byte h26 hF, fun i hi => ?_, fun i hi => ?_, fun i hi t ht => ?_, fun j h2 hj => ?_⟩
  · rw [wr_rd _ _ h26 (by omega)]; exact h.slotA i hi
  · rw [wr_rd _ _ h26 (by omega)]; exact h.slotB i hi
  · have := sizes_mono zs (show i + 1 ≤ rd zs 14 2 from hi)
    rw [wr_rest _ _ h26 (by omega)]; exact h.data i hi t ht
  · rw [wr_rest _ _ h26 (by omega)]; exact h.none j h2 hj
/-- An emptied cell's place doesn't matter. -/
theorem relaid_move {zs Q : List Nat} (hz : ∀ c ∈ zs, c < 256) (hg : Good zs) {i x y : Nat} (hi : i < rd zs 14 2) (h : Relaid (slotSet zs i x 0) Q) : Relaid (slotSet zs i y 0) Q := by
  have hl := hg.1
  have h2 := hg.2.2.1
  have h5 := hg.2.2.2.1
  have hi30 : 30 + 4 * i ≤ zs.length := by omega
  have cx := slotSet_count (zs := zs) i x 0 hi30
  have cy := slotSet_count (zs := zs) i y 0 hi30
  have hs : ∀ k, k ≤ rd zs 14 2 → sizes (slotSet zs i y 0) k = sizes (slotSet zs i x 0) k := fun k hk => by
    by_cases e : k ≤ i
    · rw [slotSet_sizes_lo _ _ _ hi30 k e, slotSet_sizes_lo _ _ _ hi30 k e]
    · have a1 := slotSet_sizes hz i x 0 hi30 (by omega) k (by omega)
      have a2 := slotSet_sizes hz i y 0 hi30 (by omega) k (by omega)
      omega
  have hw : ∀ k, rd (slotSet zs i y 0) (28 + 4 * k) 2 = rd (slotSet zs i x 0) (28 + 4 * k) 2 := fun k => by
    by_cases e : k = i
    · rw [e, slotSet_size hz i y 0 hi30 (by omega), slotSet_size hz i x 0 hi30 (by omega)]
    · rw [slotSet_other _ _ _ hi30 _ _ (by omega), slotSet_other _ _ _ hi30 _ _ (by omega)]
  have hd : hdRel (slotSet zs i y 0) = hdRel (slotSet zs i x 0) := by
    rw [hdRel, hdRel, hdOf_slotSet hl _ _ _ (by omega), hdOf_slotSet hl _ _ _ (by omega), cx, cy, hs _ (Nat.le_refl _)]
  refine ⟨h.len, h.byte, by rw [hd]; exact h.hd, fun k hk => ?_, fun k hk => ?_, fun k hk t ht => ?_, fun j h1 h3 => ?_⟩
  · rw [cy] at hk
    rw [hs _ hk]; exact h.slotA k (by rw [cx]; exact hk)
  · rw [cy] at hk
    rw [hw]; exact h.slotB k (by rw [cx]; exact hk)
  · rw [cy] at hk
    have e0 := ht
    rw [hw] at e0
    rw [hs _ hk, h.data k (by rw [cx]; exact hk) t e0, cellOf_get e0, cellOf_get ht]
    have e : k ≠ i := fun e => by
      rw [e, slotSet_size hz i y 0 hi30 (by omega)] at ht
      omega
    rw [slotSet_other _ _ _ hi30 _ _ (by omega)] at ht
    have h7 := good_low hg k hk
    rw [slotSet_other i x _ hi30 _ _ (by omega), slotSet_other i y _ hi30 _ _ (by omega)]
    have h8 : 30 + 4 * i ≤ rd zs (26 + 4 * k) 2 := by omega
    rw [slotSet_get _ _ _ _ hi30, slotSet_get _ _ _ _ hi30, if_neg (by omega), if_neg (by omega), if_neg (by omega), if_neg (by omega)]
  · rw [cy] at h1 h3
    rw [hs _ (Nat.le_refl _)] at h3
    exact h.none j (by rw [cx]; exact h1) (by rw [cx]; exact h3)
/-- The page out of which the document lays anew, when a cell grows. -/
def repZ (zs : List Nat) (i : Nat) : List Nat := lay zs (28 + 4 * i) 0 2
theorem repZ_eq {zs : List Nat} (hz : ∀ c ∈ zs, c < 256) (hl : zs.length = 512) {i : Nat} (hi : 30 + 4 * i ≤ 512) : repZ zs i = slotSet zs i (rd zs (26 + 4 * i) 2) 0 := by
  rw [repZ, slotSet, lay_same hz _ (by omega)]
theorem repZ_length {zs : List Nat} (hl : zs.length = 512) (i : Nat) : (repZ zs i).length = 512 := by rw [repZ, lay_length]; exact hl
theorem repZ_bytes {zs : List Nat} (hz : ∀ c ∈ zs, c < 256) (i : Nat) : ∀ c ∈ repZ zs i, c < 256 := lay_bytes _ _ hz _
theorem repZ_count {zs : List Nat} (hl : zs.length = 512) {i : Nat} (hi : 30 + 4 * i ≤ 512) : rd (repZ zs i) 14 2 = rd zs 14 2 := rd_lay_other _ _ _ _ _ (by omega) (by omega)
theorem repZ_low {zs : List Nat} (hl : zs.length = 512) {i : Nat} (hi : 30 + 4 * i ≤ 512) : rd (repZ zs i) 16 2 = rd zs 16 2 := rd_lay_other _ _ _ _ _ (by omega) (by omega)
theorem repZ_fitting {zs : List Nat} (hz : ∀ c ∈ zs, c < 256) (hg : Good zs) {i : Nat} (hi : i < rd zs 14 2) : Fitting (repZ zs i) (rd (repZ zs i) 14 2) := by
  have h2 := hg.2.2.1
  have h5 := hg.2.2.2.1
  have h6 := good_cell hg i hi
  rw [repZ_count hg.1 (by omega), repZ_eq hz hg.1 (by omega)]
  exact slotSet_fitting hz hg i _ hi (by omega)
theorem repZ_sizes {zs : List Nat} (hz : ∀ c ∈ zs, c < 256) (hg : Good zs) {i : Nat} (hi : i < rd zs 14 2) : sizes (repZ zs i) (rd zs 14 2) + rd zs (28 + 4 * i) 2 = sizes zs (rd zs 14 2) := by
  have h2 := hg.2.2.1
  have h5 := hg.2.2.2.1
  have hl := hg.1
  have h6 := good_cell hg i hi
  rw [repZ_eq hz hg.1 (by omega)]
  exact slotSet_sizes hz i _ 0 (by omega) (by omega) _ hi
theorem repZ_comp {zs : List Nat} (hz : ∀ c ∈ zs, c < 256) (hg : Good zs) {i : Nat} (hi : i < rd zs 14 2) : Relaid (repZ zs i) (refComp (repZ zs i)) := refComp_is (repZ_bytes hz i) (repZ_length hg.1 i) (repZ_fitting hz hg hi)
theorem repZ_relaid {zs : List Nat} (hz : ∀ c ∈ zs, c < 256) (hg : Good zs) {i : Nat} (hi : i < rd zs 14 2) : refComp (repZ zs i) = relaid (slotSet zs i (rd zs 16 2) 0) (hdOf zs) := by
  have h2 := hg.2.2.1
  have h5 := hg.2.2.2.1
  have hl := hg.1
  refine relaid_unique (repZ_fitting hz hg hi) (repZ_comp hz hg hi) ?_
  rw [repZ_eq hz hg.1 (by omega)]
  refine relaid_move hz hg (x := rd zs 16 2) hi ?_
  have h := relaid_is' (slotSet_bytes' hz i (rd zs 16 2) 0) (by rw [slotSet_length]; exact hl) (by rw [slotSet_count _ _ _ (by omega)]; exact slotSet_fitting hz hg i _ hi (by omega))
  rw [hdOf_slotSet hl _ _ _ (by omega)] at h
  exact h
theorem repGrow_room {zs cs : List Nat} (hz : ∀ c ∈ zs, c < 256) (hg : Good zs) (hc : ∀ c ∈ cs, c < 256) {i : Nat} (hi : i < rd zs 14 2) (hgt : rd zs (28 + 4 * i) 2 < cs.length) (hm : 26 + 4 * rd zs 14 2 + cs.length ≤ rd zs 16 2) :
    refPush (repZ zs i) i (rd zs 16 2 - cs.length) cs = repOf zs i cs := by
  have h2 := hg.2.2.1
  have h5 := hg.2.2.2.1
  have hl := hg.1
  rw [repOf, if_neg (by omega), if_pos hm]
  refine refPush_eq (repZ_bytes hz i) (slotSet_bytes' hz i _ _) (repZ_length hl i) (by rw [slotSet_length]; exact hl) hc (hdOf_fits hz (by omega)) ?_ (by omega) (by omega) (fun j h3 h4 h6 => ?_)
  · rw [repZ, hdOf_lay_hi hl _ _ _ (by omega) (by omega)]
  · rw [repZ, lay_get _ _ _ _ (by omega), if_neg (by omega), slotSet_get _ _ _ _ (by omega), if_neg (by omega), if_neg (by omega)]
theorem repGrow_anew {zs cs : List Nat} (hz : ∀ c ∈ zs, c < 256) (hg : Good zs) (hc : ∀ c ∈ cs, c < 256) {i : Nat} (hi : i < rd zs 14 2) (hgt : rd zs (28 + 4 * i) 2 < cs.length) (hm : ¬ 26 + 4 * rd zs 14 2 + cs.length ≤ rd zs 16 2)
    (hfree : 26 + 4 * rd zs 14 2 + sizes (repZ zs i) (rd zs 14 2) + cs.length ≤ 512) :
    refPush (refComp (repZ zs i)) i (512 - sizes (repZ zs i) (rd zs 14 2) - cs.length) cs = repOf zs i cs := by
  have h2 := hg.2.2.1
  have h5 := hg.2.2.2.1
  have hl := hg.1
  have hR := repZ_comp hz hg hi
  have hs : sizes (slotSet zs i (rd zs 16 2) 0) (rd zs 14 2) = sizes (repZ zs i) (rd zs 14 2) := by
    have a1 := slotSet_sizes hz i (rd zs 16 2) 0 (by omega) (by omega) (rd zs 14 2) hi
    have a2 := repZ_sizes hz hg hi
    omega
  have hhd : hdOf (refComp (repZ zs i)) = { hdOf zs with low := 512 - sizes (repZ zs i) (rd zs 14 2) } := by
    rw [hR.hd, hdRel, repZ_count hl (by omega)]
    rw [show hdOf (repZ zs i) = hdOf zs from by rw [repZ, hdOf_lay_hi hl _ _ _ (by omega) (by omega)]]
  have hF := hdOf_fits hz (by omega : 26 ≤ zs.length)
  rw [repOf, if_neg (by omega), if_neg hm, hs, ← repZ_relaid hz hg hi]
  refine refPush_eq hR.byte hR.byte hR.len hR.len hc ⟨hF.1, hF.2.1, hF.2.2.1, hF.2.2.2.1, hF.2.2.2.2.1, hF.2.2.2.2.2.1, hF.2.2.2.2.2.2.1, by show 512 - _ < 65536; omega⟩ ?_ (by omega) (by omega) (fun _ _ _ _ => rfl)
  rw [hhd]
end Go.Proofs.Ytaadeoobmclpcaa
namespace Go.Proofs.Ytaadeoobmclpcaa
open Go.ChangeShapes Go.WideShapes Go.ChangeAt Go.RowKit

attribute [local irreducible] slotSet relaid refComp lay splice repOf repZ repIn
end Go.Proofs.Ytaadeoobmclpcaa
