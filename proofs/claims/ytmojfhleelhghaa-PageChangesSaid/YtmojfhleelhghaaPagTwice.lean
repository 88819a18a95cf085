/- A page that is laid out anew twice; a cell laid in behind: plain facts. -/
import Derived.Test.YtmojfhleelhghaaPagApart
namespace Go.Proofs.Ytmojfhleelhghaa

theorem sizes_find {zs : List Nat} : ∀ {n x : Nat}, x < sizes zs n → ∃ i, i < n ∧ sizes zs i ≤ x ∧ x < sizes zs (i + 1)
  | 0, x, h => absurd h (Nat.not_lt_zero _)
  | n + 1, x, h => by
    by_cases h' : x < sizes zs n
    · obtain ⟨i, hi, h1, h2⟩ := sizes_find h'
      exact ⟨i, by omega, h1, h2⟩
    · exact ⟨n, by omega, by omega, h⟩
theorem rd_bytes2 {P Q : List Nat} (hp : ∀ c ∈ P, c < 256) (hq : ∀ c ∈ Q, c < 256) {a n : Nat} (h : rd P a n = rd Q a n) {t : Nat} (ht : t < n) : P.getD (a + t) 0 = Q.getD (a + t) 0 := by
  rw [← rd_byte hp a n t ht, ← rd_byte hq a n t ht, h]
/-- Two pages laid out anew out of pages whose heads, sizes and cells are the same, are the same. -/
theorem relaid_same {zs ys : List Nat} (hz : ∀ c ∈ zs, c < 256) (hy : ∀ c ∈ ys, c < 256) (hg : Good zs) (hg' : Good ys) (hd : hdRel ys = hdRel zs) (hn : rd ys 14 2 = rd zs 14 2)
    (hs : ∀ k, k ≤ rd zs 14 2 → sizes ys k = sizes zs k) (hc : ∀ i, i < rd zs 14 2 → cellOf ys i = cellOf zs i) : relaid ys (hdOf ys) = relaid zs (hdOf zs) := by
  have h := relaid_is hz hg
  have k := relaid_is hy hg'
  have hf := (good_fitting hg).1
  have e1 : (relOut zs (rd zs 14 2) (rd zs 14 2)).length = 512 := relOut_length hg.1 (good_fitting hg) (Nat.le_refl _)
  have e2 : (relOut ys (rd ys 14 2) (rd ys 14 2)).length = 512 := relOut_length hg'.1 (good_fitting hg') (Nat.le_refl _)
  have hsz : ∀ i, i < rd zs 14 2 → rd ys (28 + 4 * i) 2 = rd zs (28 + 4 * i) 2 := by
    intro i hi
    have h1 := hs (i + 1) hi
    have h2 := hs i (by omega)
    rw [sizes, sizes] at h1
    omega
  refine list_ext (by rw [h.len, k.len]) (fun j hj => ?_)
  rw [k.len] at hj
  by_cases h26 : j < 26
  · rw [relaid_eq, relaid_eq, hd]
    exact wr_head _ _ _ (by omega) (by omega) h26
  · by_cases hsl : j < 26 + 4 * rd zs 14 2
    · obtain ⟨i, t, ht, hi, rfl⟩ : ∃ i t, t < 4 ∧ i < rd zs 14 2 ∧ j = 26 + 4 * i + t := ⟨(j - 26) / 4, (j - 26) % 4, by omega, by omega, by omega⟩
      by_cases h2 : t < 2
      · exact rd_bytes2 k.byte h.byte (a := 26 + 4 * i) (n := 2) (by rw [k.slotA i (by omega), h.slotA i hi, hs (i + 1) hi]) h2
      · have e : 26 + 4 * i + t = 28 + 4 * i + (t - 2) := by omega
        rw [e]
        exact rd_bytes2 k.byte h.byte (a := 28 + 4 * i) (n := 2) (by rw [k.slotB i (by omega), h.slotB i hi, hsz i hi]) (by omega)
    · by_cases hno : j < 512 - sizes zs (rd zs 14 2)
      · rw [h.none j (by omega) hno, k.none j (by rw [hn]; omega) (by rw [hn, hs _ (Nat.le_refl _)]; exact hno)]
      · obtain ⟨i, hi, h1, h2⟩ := sizes_find (zs := zs) (n := rd zs 14 2) (x := 511 - j) (by omega)
        have h3 := sizes_mono zs (show i + 1 ≤ rd zs 14 2 from hi)
        have hsi : sizes zs (i + 1) = sizes zs i + rd zs (28 + 4 * i) 2 := rfl
        obtain ⟨t, rfl⟩ : ∃ t, j = 512 - sizes zs (i + 1) + t := ⟨j - (512 - sizes zs (i + 1)), by omega⟩
        rw [h.data i hi t (by omega), ← hs (i + 1) hi, k.data i (by omega) t (by rw [hsz i hi]; omega), hc i hi]
theorem relaid_twice {zs : List Nat} (hz : ∀ c ∈ zs, c < 256) (hg : Good zs) : relaid (relaid zs (hdOf zs)) (hdOf (relaid zs (hdOf zs))) = relaid zs (hdOf zs) := by
  have h := relaid_is hz hg
  refine relaid_same hz h.byte hg (relaid_good hg h) ?_ (relaid_count h) (fun k hk => relaid_sizes h k hk) (fun i hi => relaid_cell hg h i hi)
  rw [hdRel, h.hd, relaid_count h, relaid_sizes h _ (Nat.le_refl _)]
  rfl
theorem pushed_rest {zs cs : List Nat} {H : Hd} {i a : Nat} (hl : zs.length = 512) (ha : a + cs.length ≤ 512) (hi : 30 + 4 * i ≤ 512) {j : Nat} (hj : a + cs.length ≤ j) (hj' : 30 + 4 * i ≤ j) : (pushed zs H i a cs).getD j 0 = zs.getD j 0 := by
  have hs : (splice zs a cs).length = 512 := by rw [length_splice _ _ _ (by omega)]; exact hl
  rw [pushed, wr_rest _ _ (by rw [lay_length, lay_length]; omega) (by omega)]
  have := slotSet_get (splice zs a cs) i a cs.length (by omega) j
  rw [slotSet] at this
  rw [this, if_neg (by omega), if_neg (by omega), splice_get _ _ _ (by omega), if_neg (by omega)]
theorem pushed_length' {zs cs : List Nat} {H : Hd} {i a : Nat} (hl : zs.length = 512) (h : a + cs.length ≤ 512) : (pushed zs H i a cs).length = 512 := by
  rw [pushed, wr_length, lay_length, lay_length, length_splice _ _ _ (by omega)]; exact hl
/-- A cell laid in behind all others turns no byte of the others. -/
theorem insert_behind {Q cs : List Nat} (hg : Good Q) (hroom : 30 + 4 * rd Q 14 2 + cs.length ≤ rd Q 16 2) : (insOf Q (rd Q 14 2) cs).drop (rd Q 16 2) = Q.drop (rd Q 16 2) := by
  have hl := hg.1
  have h5 := hg.2.2.2.1
  have e : (Q.drop (26 + 4 * rd Q 14 2)).take (4 * (rd Q 14 2 - rd Q 14 2)) = [] := by rw [Nat.sub_self, Nat.mul_zero, List.take_zero]
  rw [insOf, if_pos hroom, ← insertedH_eq, show (hdOf Q).count = rd Q 14 2 from rfl, e, splice_nil]
  refine drop_ext (by rw [pushed_length' hl (by show rd Q 16 2 - cs.length + cs.length ≤ 512; omega), hl]) _ (fun j hj => ?_)
  exact pushed_rest hl (by show rd Q 16 2 - cs.length + cs.length ≤ 512; omega) (by omega) (by show rd Q 16 2 - cs.length + cs.length ≤ j; omega) (by omega)
end Go.Proofs.Ytmojfhleelhghaa
