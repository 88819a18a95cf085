/- A page laid out anew: what it holds, byte by byte. -/
import Derived.Test.YtmojfhleelhghaaPagSlot
namespace Go.Proofs.Ytmojfhleelhghaa

theorem splice_get (L : List Nat) (off : Nat) (cs : List Nat) (h : off + cs.length ≤ L.length) (j : Nat) : (splice L off cs).getD j 0 = if off ≤ j ∧ j < off + cs.length then cs.getD (j - off) 0 else L.getD j 0 := by
  simp only [List.getD_eq_getElem?_getD, splice]
  by_cases h1 : j < off
  · rw [if_neg (by omega), List.getElem?_append_left (by rw [List.length_take]; omega), List.getElem?_take, if_pos h1]
  · have hl : (L.take off).length = off := by rw [List.length_take]; omega
    rw [List.getElem?_append_right (by omega), hl]
    by_cases h2 : j < off + cs.length
    · rw [if_pos ⟨by omega, h2⟩, List.getElem?_append_left (by omega)]
    · rw [if_neg (by omega), List.getElem?_append_right (by omega), List.getElem?_drop, show off + cs.length + (j - off - cs.length) = j from by omega]
theorem rd_splice_lo {L cs : List Nat} {off : Nat} (h : off + cs.length ≤ L.length) (q m : Nat) (hq : q + m ≤ off) : rd (splice L off cs) q m = rd L q m :=
  rd_ext (length_splice _ _ _ h) _ _ (fun i hi => by rw [splice_get _ _ _ h, if_neg (by omega)])
theorem cellOf_get {zs : List Nat} {i : Nat} {t : Nat} (ht : t < rd zs (28 + 4 * i) 2) : (cellOf zs i).getD t 0 = zs.getD (rd zs (26 + 4 * i) 2 + t) 0 := by
  simp only [cellOf, List.getD_eq_getElem?_getD]
  rw [List.getElem?_take, if_pos ht, List.getElem?_drop]
theorem relOut_succ (zs : List Nat) (c k : Nat) : relOut zs c (k + 1) = slotSet (splice (relOut zs c k) (512 - sizes zs (k + 1)) (cellOf zs k)) k (512 - sizes zs (k + 1)) (rd zs (28 + 4 * k) 2) := rfl
/-- What the first k steps give. -/
structure RelTo (zs : List Nat) (c k : Nat) (R : List Nat) : Prop where
  len : R.length = 512
  byte : ∀ d ∈ R, d < 256
  head : ∀ j, j < 26 → R.getD j 0 = zs.getD j 0
  slotA : ∀ i, i < k → rd R (26 + 4 * i) 2 = 512 - sizes zs (i + 1)
  slotB : ∀ i, i < k → rd R (28 + 4 * i) 2 = rd zs (28 + 4 * i) 2
  data : ∀ i, i < k → ∀ t, t < rd zs (28 + 4 * i) 2 → R.getD (512 - sizes zs (i + 1) + t) 0 = (cellOf zs i).getD t 0
  none : ∀ j, 26 + 4 * c ≤ j → j < 512 - sizes zs k → R.getD j 0 = 0
theorem relTo_zero {zs : List Nat} (hz : ∀ d ∈ zs, d < 256) (hl : zs.length = 512) {c : Nat} (hf : Fitting zs c) : RelTo zs c 0 (relOut zs c 0) := by
  have h1 := hf.1
  have hn : noughts.length = 512 := List.length_replicate
  have hs : 0 + (zs.take (26 + 4 * c)).length ≤ noughts.length := by rw [hn, List.length_take]; omega
  have ht : (zs.take (26 + 4 * c)).length = 26 + 4 * c := by rw [List.length_take]; omega
  have hg : ∀ j, (relOut zs c 0).getD j 0 = if j < 26 + 4 * c then zs.getD j 0 else 0 := by
    intro j
    rw [relOut, splice_get _ _ _ hs, ht, noughts_get]
    by_cases h : j < 26 + 4 * c
    · rw [if_pos ⟨by omega, by omega⟩, if_pos h, Nat.sub_zero]
      simp only [List.getD_eq_getElem?_getD]
      rw [List.getElem?_take, if_pos h]
    · rw [if_neg (by omega), if_neg h]
  refine ⟨relOut_length hl hf (Nat.zero_le _), relOut_bytes hz c 0, fun j hj => by rw [hg, if_pos (by omega)], fun i hi => absurd hi (Nat.not_lt_zero _), fun i hi => absurd hi (Nat.not_lt_zero _), fun i hi => absurd hi (Nat.not_lt_zero _), fun j hj _ => by rw [hg, if_neg (by omega)]⟩
theorem relTo_succ {zs : List Nat} (hz : ∀ d ∈ zs, d < 256) (hl : zs.length = 512) {c k : Nat} (hf : Fitting zs c) (hk : k < c) (h : RelTo zs c k (relOut zs c k)) : RelTo zs c (k + 1) (relOut zs c (k + 1)) := by
  have h1 := hf.1
  have hsm := sizes_mono zs (show k + 1 ≤ c from hk)
  have hsk : sizes zs (k + 1) = sizes zs k + rd zs (28 + 4 * k) 2 := rfl
  have hcl := cellOf_length hl (hf.2 k hk)
  have hrl := h.len
  have hy := rd2 hz (28 + 4 * k) (by omega)
  have hfit : (512 - sizes zs (k + 1)) + (cellOf zs k).length ≤ (relOut zs c k).length := by rw [hcl, hrl]; omega
  have hsl : (splice (relOut zs c k) (512 - sizes zs (k + 1)) (cellOf zs k)).length = 512 := by rw [length_splice _ _ _ hfit]; exact hrl
  have hsb := splice_bytes h.byte (cellOf_bytes hz k) (512 - sizes zs (k + 1))
  have h30 : 30 + 4 * k ≤ (splice (relOut zs c k) (512 - sizes zs (k + 1)) (cellOf zs k)).length := by omega
  have hget : ∀ j, 30 + 4 * k ≤ j ∨ j < 26 → (relOut zs c (k + 1)).getD j 0 = if 512 - sizes zs (k + 1) ≤ j ∧ j < 512 - sizes zs (k + 1) + (cellOf zs k).length then (cellOf zs k).getD (j - (512 - sizes zs (k + 1))) 0 else (relOut zs c k).getD j 0 := by
    intro j hj
    rw [relOut_succ, slotSet_get _ _ _ _ h30, if_neg (by omega), if_neg (by omega), splice_get _ _ _ hfit]
  refine ⟨relOut_length hl hf hk, relOut_bytes hz c _, fun j hj => ?_, fun i hi => ?_, fun i hi => ?_, fun i hi t ht => ?_, fun j h26 hj => ?_⟩
  · rw [hget j (.inr hj), if_neg (by omega)]; exact h.head j hj
  · rw [relOut_succ]
    by_cases e : i = k
    · subst e
      exact slotSet_at hsb i _ _ h30 (by omega)
    · rw [slotSet_other _ _ _ h30 _ _ (by omega), rd_splice_lo hfit _ _ (by omega)]
      exact h.slotA i (by omega)
  · rw [relOut_succ]
    by_cases e : i = k
    · subst e
      exact slotSet_size hsb i _ _ h30 hy
    · rw [slotSet_other _ _ _ h30 _ _ (by omega), rd_splice_lo hfit _ _ (by omega)]
      exact h.slotB i (by omega)
  · by_cases e : i = k
    · subst e
      rw [hget _ (.inl (by omega)), if_pos ⟨by omega, by rw [hcl]; omega⟩, Nat.add_sub_cancel_left]
    · have hik := sizes_mono zs (show i + 1 ≤ k from by omega)
      have hsi : sizes zs (i + 1) = sizes zs i + rd zs (28 + 4 * i) 2 := rfl
      rw [hget _ (.inl (by omega)), if_neg (by rw [hcl]; omega)]
      exact h.data i (by omega) t ht
  · rw [hget j (.inl (by omega)), if_neg (by omega)]
    exact h.none j h26 (by omega)
theorem relTo_all {zs : List Nat} (hz : ∀ d ∈ zs, d < 256) (hl : zs.length = 512) {c : Nat} (hf : Fitting zs c) : ∀ k, k ≤ c → RelTo zs c k (relOut zs c k)
  | 0, _ => relTo_zero hz hl hf
  | k + 1, h => relTo_succ hz hl hf h (relTo_all hz hl hf k (by omega))
/-- A page with a head laid over it, behind its head. -/
theorem wr_rest (p : List Nat) (h : Hd) (hl : 26 ≤ p.length) {j : Nat} (hj : 26 ≤ j) : (wr p h).getD j 0 = p.getD j 0 := by
  rw [wr_get p h hl, if_neg (by omega), if_neg (by omega), if_neg (by omega), if_neg (by omega), if_neg (by omega), if_neg (by omega), if_neg (by omega), if_neg (by omega)]
/-- Two pages that bear one head, ahead of the slots. -/
theorem wr_head (p q : List Nat) (h : Hd) (hp : 26 ≤ p.length) (hq : 26 ≤ q.length) {j : Nat} (hj : j < 26) : (wr p h).getD j 0 = (wr q h).getD j 0 := by
  rw [wr_get p h hp, wr_get q h hq]
  by_cases h1 : 22 ≤ j ∧ j < 22 + 4
  · rw [if_pos h1, if_pos h1]
  rw [if_neg h1, if_neg h1]
  by_cases h2 : 18 ≤ j ∧ j < 18 + 4
  · rw [if_pos h2, if_pos h2]
  rw [if_neg h2, if_neg h2]
  by_cases h3 : 16 ≤ j ∧ j < 16 + 2
  · rw [if_pos h3, if_pos h3]
  rw [if_neg h3, if_neg h3]
  by_cases h4 : 14 ≤ j ∧ j < 14 + 2
  · rw [if_pos h4, if_pos h4]
  rw [if_neg h4, if_neg h4]
  by_cases h5 : j = 13
  · rw [if_pos h5, if_pos h5]
  rw [if_neg h5, if_neg h5]
  by_cases h6 : j = 12
  · rw [if_pos h6, if_pos h6]
  rw [if_neg h6, if_neg h6]
  by_cases h7 : 4 ≤ j ∧ j < 4 + 8
  · rw [if_pos h7, if_pos h7]
  rw [if_neg h7, if_neg h7, if_pos (by omega), if_pos (by omega)]
theorem wr_hdOf {p : List Nat} (hz : ∀ c ∈ p, c < 256) (hl : 26 ≤ p.length) {h : Hd} (hF : h.Fits) : hdOf (wr p h) = h := by
  have hb := wr_bytes hz hF
  have hlen : (wr p h).length = p.length := wr_length p h
  obtain ⟨f1, f2, f3, f4, f5, f6, f7, f8⟩ := hF
  have e1 : rd (wr p h) 0 4 = h.sum := rd_is hb _ _ _ (by omega) f1 (fun i hi => by
    rw [wr_get p h hl, if_neg (by omega), if_neg (by omega), if_neg (by omega), if_neg (by omega), if_neg (by omega), if_neg (by omega), if_neg (by omega), if_pos (by omega), show 0 + i - 0 = i from by omega])
  have e2 : rd (wr p h) 18 4 = h.link := rd_is hb _ _ _ (by omega) f2 (fun i hi => by
    rw [wr_get p h hl, if_neg (by omega), if_pos (by omega), show 18 + i - 18 = i from by omega])
  have e3 : rd (wr p h) 22 4 = h.extra := rd_is hb _ _ _ (by omega) f3 (fun i hi => by
    rw [wr_get p h hl, if_pos (by omega), show 22 + i - 22 = i from by omega])
  have e4 : rd (wr p h) 4 8 = h.lsn := rd_is hb _ _ _ (by omega) f4 (fun i hi => by
    rw [wr_get p h hl, if_neg (by omega), if_neg (by omega), if_neg (by omega), if_neg (by omega), if_neg (by omega), if_neg (by omega), if_pos (by omega), show 4 + i - 4 = i from by omega])
  have e5 : (wr p h).getD 12 0 = h.kind := by
    rw [wr_get p h hl, if_neg (by omega), if_neg (by omega), if_neg (by omega), if_neg (by omega), if_neg (by omega), if_pos rfl]
  have e6 : (wr p h).getD 13 0 = h.zero := by
    rw [wr_get p h hl, if_neg (by omega), if_neg (by omega), if_neg (by omega), if_neg (by omega), if_pos rfl]
  have e7 : rd (wr p h) 14 2 = h.count := rd_is hb _ _ _ (by omega) f7 (fun i hi => by
    rw [wr_get p h hl, if_neg (by omega), if_neg (by omega), if_neg (by omega), if_pos (by omega), show 14 + i - 14 = i from by omega])
  have e8 : rd (wr p h) 16 2 = h.low := rd_is hb _ _ _ (by omega) f8 (fun i hi => by
    rw [wr_get p h hl, if_neg (by omega), if_neg (by omega), if_pos (by omega), show 16 + i - 16 = i from by omega])
  rw [hdOf, e1, e2, e3, e4, e5, e6, e7, e8]
theorem wr_rd (p : List Nat) (h : Hd) (hl : 26 ≤ p.length) {q n : Nat} (hq : 26 ≤ q) : rd (wr p h) q n = rd p q n :=
  rd_ext (wr_length p h) _ _ (fun i _ => wr_rest p h hl (by omega))
theorem hdRel_fits {zs : List Nat} (hz : ∀ c ∈ zs, c < 256) (hl : zs.length = 512) : (hdRel zs).Fits := by
  have hF := hdOf_fits hz (by omega : 26 ≤ zs.length)
  exact ⟨hF.1, hF.2.1, hF.2.2.1, hF.2.2.2.1, hF.2.2.2.2.1, hF.2.2.2.2.2.1, hF.2.2.2.2.2.2.1, by show 512 - sizes zs (rd zs 14 2) < 65536; omega⟩
theorem relaid_eq (zs : List Nat) : relaid zs (hdOf zs) = wr (relOut zs (rd zs 14 2) (rd zs 14 2)) (hdRel zs) := rfl
/-- What a page that was laid out anew holds. -/
structure Relaid (zs Q : List Nat) : Prop where
  len : Q.length = 512
  byte : ∀ d ∈ Q, d < 256
  hd : hdOf Q = hdRel zs
  slotA : ∀ i, i < rd zs 14 2 → rd Q (26 + 4 * i) 2 = 512 - sizes zs (i + 1)
  slotB : ∀ i, i < rd zs 14 2 → rd Q (28 + 4 * i) 2 = rd zs (28 + 4 * i) 2
  data : ∀ i, i < rd zs 14 2 → ∀ t, t < rd zs (28 + 4 * i) 2 → Q.getD (512 - sizes zs (i + 1) + t) 0 = (cellOf zs i).getD t 0
  none : ∀ j, 26 + 4 * rd zs 14 2 ≤ j → j < 512 - sizes zs (rd zs 14 2) → Q.getD j 0 = 0
theorem relaid_is {zs : List Nat} (hz : ∀ c ∈ zs, c < 256) (hg : Good zs) : Relaid zs (relaid zs (hdOf zs)) := by
  have hl := hg.1
  have hf := good_fitting hg
  have h1 := hf.1
  have h := relTo_all hz hl hf _ (Nat.le_refl _)
  have hF := hdRel_fits hz hl
  have h26 : 26 ≤ (relOut zs (rd zs 14 2) (rd zs 14 2)).length := by rw [h.len]; decide
  rw [relaid_eq]
  refine ⟨by rw [wr_length]; exact h.len, wr_bytes h.byte hF, wr_hdOf h.byte h26 hF, fun i hi => ?_, fun i hi => ?_, fun i hi t ht => ?_, fun j h2 hj => ?_⟩
  · rw [wr_rd _ _ h26 (by omega)]; exact h.slotA i hi
  · rw [wr_rd _ _ h26 (by omega)]; exact h.slotB i hi
  · have := sizes_mono zs (show i + 1 ≤ rd zs 14 2 from hi)
    rw [wr_rest _ _ h26 (by omega)]; exact h.data i hi t ht
  · rw [wr_rest _ _ h26 (by omega)]; exact h.none j h2 hj
end Go.Proofs.Ytmojfhleelhghaa
