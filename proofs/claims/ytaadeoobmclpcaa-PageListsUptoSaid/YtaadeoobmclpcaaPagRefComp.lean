/- The document's own page laid out anew: plain facts and a contract. -/
import Derived.Test.YtaadeoobmclpcaaPagRefCells
namespace Go.Proofs.Ytaadeoobmclpcaa
open Go.ChangeShapes Go.WideShapes Go.ChangeAt Go.RowKit

theorem splice_step {L cs : List Nat} {off m : Nat} (h : off + cs.length ≤ L.length) (hm : m < cs.length) : (splice L off (cs.take m)).set (off + m) cs[m] = splice L off (cs.take (m + 1)) := by
  have l1 : (cs.take m).length = m := by rw [List.length_take]; omega
  have l2 : (cs.take (m + 1)).length = m + 1 := by rw [List.length_take]; omega
  have s1 : (splice L off (cs.take m)).length = L.length := length_splice _ _ _ (by rw [l1]; omega)
  have s2 : (splice L off (cs.take (m + 1))).length = L.length := length_splice _ _ _ (by rw [l2]; omega)
  refine list_ext (by rw [List.length_set, s1, s2]) (fun j _ => ?_)
  rw [getD_set _ _ _ _ (by omega), splice_get _ _ _ (by rw [l1]; omega), splice_get _ _ _ (by rw [l2]; omega), l1, l2]
  by_cases e : j = off + m
  · rw [if_pos e, if_pos (by omega)]
    simp only [List.getD_eq_getElem?_getD]
    rw [show j - off = m from by omega, List.getElem?_take, if_pos (by omega), List.getElem?_eq_getElem hm]
    rfl
  · rw [if_neg e]
    by_cases h1 : off ≤ j ∧ j < off + m
    · rw [if_pos h1, if_pos (by omega)]
      simp only [List.getD_eq_getElem?_getD]
      rw [List.getElem?_take, List.getElem?_take, if_pos (by omega), if_pos (by omega)]
    · rw [if_neg h1, if_neg (by omega)]
/-- The page's bytes while the document lays its cells out anew: k of them. -/
def refOut (zs : List Nat) (n : Nat) : Nat → List Nat
  | 0 => splice zs (26 + 4 * n) (List.replicate (486 - 4 * n) 0)
  | k + 1 => lay (splice (refOut zs n k) (512 - sizes zs (k + 1)) (cellOf zs k)) (26 + 4 * k) (512 - sizes zs (k + 1)) 2
/-- What the first k steps give. -/
structure RefTo (zs : List Nat) (n k : Nat) (R : List Nat) : Prop where
  len : R.length = 512
  byte : ∀ d ∈ R, d < 256
  head : ∀ j, j < 26 → R.getD j 0 = zs.getD j 0
  slotA : ∀ i, i < k → rd R (26 + 4 * i) 2 = 512 - sizes zs (i + 1)
  slotB : ∀ i, i < n → rd R (28 + 4 * i) 2 = rd zs (28 + 4 * i) 2
  data : ∀ i, i < k → ∀ t, t < rd zs (28 + 4 * i) 2 → R.getD (512 - sizes zs (i + 1) + t) 0 = (cellOf zs i).getD t 0
  none : ∀ j, 26 + 4 * n ≤ j → j < 512 - sizes zs k → R.getD j 0 = 0
theorem refTo_zero {zs : List Nat} (hz : ∀ d ∈ zs, d < 256) (hl : zs.length = 512) {n : Nat} (hn : 26 + 4 * n ≤ 512) : RefTo zs n 0 (refOut zs n 0) := by
  have hr : (List.replicate (486 - 4 * n) 0).length = 486 - 4 * n := List.length_replicate
  have hs : (26 + 4 * n) + (List.replicate (486 - 4 * n) 0).length ≤ zs.length := by rw [hr]; omega
  have hg : ∀ j, j < 512 → (refOut zs n 0).getD j 0 = if j < 26 + 4 * n then zs.getD j 0 else 0 := by
    intro j hj
    rw [refOut, splice_get _ _ _ hs, hr]
    by_cases h : j < 26 + 4 * n
    · rw [if_neg (by omega), if_pos h]
    · rw [if_pos (by omega), if_neg h]
      simp only [List.getD_eq_getElem?_getD, List.getElem?_replicate]
      split <;> rfl
  have hlen : (refOut zs n 0).length = 512 := by rw [refOut, length_splice _ _ _ hs]; exact hl
  refine ⟨hlen, splice_bytes hz (fun c h => by rw [List.mem_replicate] at h; omega) _, fun j hj => by rw [hg j (by omega), if_pos (by omega)], fun i hi => absurd hi (Nat.not_lt_zero _), fun i hi => ?_, fun i hi => absurd hi (Nat.not_lt_zero _), fun j h1 h2 => ?_⟩
  · exact rd_ext (by rw [hlen, hl]) _ _ (fun t ht => by rw [hg _ (by omega), if_pos (by omega)])
  · rw [hg j (by omega), if_neg (by omega)]
theorem rd_lay_same {zs : List Nat} (hz : ∀ d ∈ zs, d < 256) (q x n : Nat) (hq : q + n ≤ zs.length) (hx : x < 2 ^ (8 * n)) : rd (lay zs q x n) q n = x :=
  rd_is (lay_bytes _ _ hz _) _ _ _ (by rw [lay_length]; omega) hx (fun i hi => by rw [lay_get _ _ _ _ hq, if_pos (by omega), show q + i - q = i from by omega])
theorem rd_lay_other {zs : List Nat} (q x n a m : Nat) (hq : q + n ≤ zs.length) (h : a + m ≤ q ∨ q + n ≤ a) : rd (lay zs q x n) a m = rd zs a m :=
  rd_ext (lay_length _ _ _ _) _ _ (fun i hi => by rw [lay_get _ _ _ _ hq, if_neg (by omega)])
theorem refTo_succ {zs : List Nat} (hz : ∀ d ∈ zs, d < 256) (hl : zs.length = 512) {n k : Nat} (hf : Fitting zs n) (hk : k < n) (h : RefTo zs n k (refOut zs n k)) : RefTo zs n (k + 1) (refOut zs n (k + 1)) := by
  have h1 := hf.1
  have hsm := sizes_mono zs (show k + 1 ≤ n from hk)
  have hsk : sizes zs (k + 1) = sizes zs k + rd zs (28 + 4 * k) 2 := rfl
  have hcl := cellOf_length hl (hf.2 k hk)
  have hrl := h.len
  have hfit : (512 - sizes zs (k + 1)) + (cellOf zs k).length ≤ (refOut zs n k).length := by rw [hcl, hrl]; omega
  have hsl : (splice (refOut zs n k) (512 - sizes zs (k + 1)) (cellOf zs k)).length = 512 := by rw [length_splice _ _ _ hfit]; exact hrl
  have hsb := splice_bytes h.byte (cellOf_bytes hz k) (512 - sizes zs (k + 1))
  have hq : (26 + 4 * k) + 2 ≤ (splice (refOut zs n k) (512 - sizes zs (k + 1)) (cellOf zs k)).length := by omega
  have hget : ∀ j, 28 + 4 * k ≤ j ∨ j < 26 → (refOut zs n (k + 1)).getD j 0 = if 512 - sizes zs (k + 1) ≤ j ∧ j < 512 - sizes zs (k + 1) + (cellOf zs k).length then (cellOf zs k).getD (j - (512 - sizes zs (k + 1))) 0 else (refOut zs n k).getD j 0 := by
    intro j hj
    rw [refOut, lay_get _ _ _ _ hq, if_neg (by omega), splice_get _ _ _ hfit]
  refine ⟨by rw [refOut, lay_length]; exact hsl, by rw [refOut]; exact lay_bytes _ _ hsb _, fun j hj => ?_, fun i hi => ?_, fun i hi => ?_, fun i hi t ht => ?_, fun j h26 hj => ?_⟩
  · rw [hget j (.inr hj), if_neg (by omega)]; exact h.head j hj
  · rw [refOut]
    by_cases e : i = k
    · subst e
      exact rd_lay_same hsb _ _ _ hq (by omega)
    · rw [rd_lay_other _ _ _ _ _ hq (by omega), rd_splice_lo hfit _ _ (by omega)]
      exact h.slotA i (by omega)
  · rw [refOut, rd_lay_other _ _ _ _ _ hq (by omega), rd_splice_lo hfit _ _ (by omega)]
    exact h.slotB i hi
  · by_cases e : i = k
    · subst e
      rw [hget _ (.inl (by omega)), if_pos ⟨by omega, by rw [hcl]; omega⟩, Nat.add_sub_cancel_left]
    · have hik := sizes_mono zs (show i + 1 ≤ k from by omega)
      have hsi : sizes zs (i + 1) = sizes zs i + rd zs (28 + 4 * i) 2 := rfl
      rw [hget _ (.inl (by omega)), if_neg (by rw [hcl]; omega)]
      exact h.data i (by omega) t ht
  · rw [hget j (.inl (by omega)), if_neg (by omega)]
    exact h.none j h26 (by omega)
theorem refTo_all {zs : List Nat} (hz : ∀ d ∈ zs, d < 256) (hl : zs.length = 512) {n : Nat} (hf : Fitting zs n) : ∀ k, k ≤ n → RefTo zs n k (refOut zs n k)
  | 0, _ => refTo_zero hz hl (by have := hf.1; omega)
  | k + 1, h => refTo_succ hz hl hf h (refTo_all hz hl hf k (by omega))
/-- The document's page laid out anew. -/
def refComp (zs : List Nat) : List Nat := lay (refOut zs (rd zs 14 2) (rd zs 14 2)) 16 (512 - sizes zs (rd zs 14 2)) 2
theorem refComp_is {zs : List Nat} (hz : ∀ d ∈ zs, d < 256) (hl : zs.length = 512) (hf : Fitting zs (rd zs 14 2)) : Relaid zs (refComp zs) := by
  have h := refTo_all hz hl hf _ (Nat.le_refl _)
  have h1 := hf.1
  have hq : 16 + 2 ≤ (refOut zs (rd zs 14 2) (rd zs 14 2)).length := by rw [h.len]; decide
  have hrd : ∀ a m, a + m ≤ 16 ∨ 18 ≤ a → rd (refComp zs) a m = rd (refOut zs (rd zs 14 2) (rd zs 14 2)) a m := fun a m ham => rd_lay_other _ _ _ _ _ hq (by omega)
  have hgt : ∀ j, 18 ≤ j ∨ j < 16 → (refComp zs).getD j 0 = (refOut zs (rd zs 14 2) (rd zs 14 2)).getD j 0 := fun j hj => by rw [refComp, lay_get _ _ _ _ hq, if_neg (by omega)]
  have hlen : (refComp zs).length = 512 := by rw [refComp, lay_length]; exact h.len
  have hh : ∀ a m, a + m ≤ 26 → rd (refOut zs (rd zs 14 2) (rd zs 14 2)) a m = rd zs a m := fun a m ham => rd_ext (by rw [h.len, hl]) _ _ (fun i hi => h.head _ (by omega))
  refine ⟨hlen, lay_bytes _ _ h.byte _, ?_, fun i hi => ?_, fun i hi => ?_, fun i hi t ht => ?_, fun j h2 hj => ?_⟩
  · have e8 : rd (refComp zs) 16 2 = 512 - sizes zs (rd zs 14 2) := rd_lay_same h.byte _ _ _ hq (by omega)
    rw [hdOf, hrd 0 4 (by omega), hrd 18 4 (by omega), hrd 22 4 (by omega), hrd 4 8 (by omega), hgt 12 (by omega), hgt 13 (by omega), hrd 14 2 (by omega), e8, hh 0 4 (by omega), hh 18 4 (by omega), hh 22 4 (by omega), hh 4 8 (by omega), h.head 12 (by omega), h.head 13 (by omega), hh 14 2 (by omega)]
    rfl
  · rw [hrd _ _ (by omega)]; exact h.slotA i hi
  · rw [hrd _ _ (by omega)]; exact h.slotB i hi
  · have := sizes_mono zs (show i + 1 ≤ rd zs 14 2 from hi)
    rw [hgt _ (by omega)]; exact h.data i hi t ht
  · rw [hgt _ (by omega)]; exact h.none j h2 hj
/-- Bytes ahead of the slots are told by the head. -/
theorem head_bytes {P Q : List Nat} (hp : ∀ c ∈ P, c < 256) (hq : ∀ c ∈ Q, c < 256) (h : hdOf P = hdOf Q) {j : Nat} (hj : j < 26) : P.getD j 0 = Q.getD j 0 := by
  have e1 : rd P 0 4 = rd Q 0 4 := congrArg Hd.sum h
  have e2 : rd P 18 4 = rd Q 18 4 := congrArg Hd.link h
  have e3 : rd P 22 4 = rd Q 22 4 := congrArg Hd.extra h
  have e4 : rd P 4 8 = rd Q 4 8 := congrArg Hd.lsn h
  have e5 : P.getD 12 0 = Q.getD 12 0 := congrArg Hd.kind h
  have e6 : P.getD 13 0 = Q.getD 13 0 := congrArg Hd.zero h
  have e7 : rd P 14 2 = rd Q 14 2 := congrArg Hd.count h
  have e8 : rd P 16 2 = rd Q 16 2 := congrArg Hd.low h
  by_cases h1 : j < 4
  · have := rd_bytes2 hp hq e1 (t := j) h1; rwa [Nat.zero_add] at this
  by_cases h2 : j < 12
  · have := rd_bytes2 hp hq e4 (t := j - 4) (by omega); rwa [show 4 + (j - 4) = j from by omega] at this
  by_cases h3 : j = 12
  · rw [h3]; exact e5
  by_cases h4 : j = 13
  · rw [h4]; exact e6
  by_cases h5 : j < 16
  · have := rd_bytes2 hp hq e7 (t := j - 14) (by omega); rwa [show 14 + (j - 14) = j from by omega] at this
  by_cases h6 : j < 18
  · have := rd_bytes2 hp hq e8 (t := j - 16) (by omega); rwa [show 16 + (j - 16) = j from by omega] at this
  by_cases h7 : j < 22
  · have := rd_bytes2 hp hq e2 (t := j - 18) (by omega); rwa [show 18 + (j - 18) = j from by omega] at this
  have := rd_bytes2 hp hq e3 (t := j - 22) (by omega); rwa [show 22 + (j - 22) = j from by omega] at this
/-- There is but one such page. -/
theorem relaid_unique {zs P Q : List Nat} (hf : Fitting zs (rd zs 14 2)) (h : Relaid zs P) (k : Relaid zs Q) : P = Q := by
  have h1 := hf.1
  refine list_ext (by rw [h.len, k.len]) (fun j hj => ?_)
  rw [h.len] at hj
  by_cases h26 : j < 26
  · exact head_bytes h.byte k.byte (h.hd.trans k.hd.symm) h26
  · by_cases hsl : j < 26 + 4 * rd zs 14 2
    · obtain ⟨i, t, ht, hi, rfl⟩ : ∃ i t, t < 4 ∧ i < rd zs 14 2 ∧ j = 26 + 4 * i + t := ⟨(j - 26) / 4, (j - 26) % 4, by omega, by omega, by omega⟩
      by_cases h2 : t < 2
      · exact rd_bytes2 h.byte k.byte (a := 26 + 4 * i) (n := 2) (by rw [h.slotA i hi, k.slotA i hi]) h2
      · have e : 26 + 4 * i + t = 28 + 4 * i + (t - 2) := by omega
        rw [e]
        exact rd_bytes2 h.byte k.byte (a := 28 + 4 * i) (n := 2) (by rw [h.slotB i hi, k.slotB i hi]) (by omega)
    · by_cases hno : j < 512 - sizes zs (rd zs 14 2)
      · rw [h.none j (by omega) hno, k.none j (by omega) hno]
      · obtain ⟨i, hi, h3, h4⟩ := sizes_find (zs := zs) (n := rd zs 14 2) (x := 511 - j) (by omega)
        have h5 := sizes_mono zs (show i + 1 ≤ rd zs 14 2 from hi)
        have hsi : sizes zs (i + 1) = sizes zs i + rd zs (28 + 4 * i) 2 := rfl
        obtain ⟨t, rfl⟩ : ∃ t, j = 512 - sizes zs (i + 1) + t := ⟨j - (512 - sizes zs (i + 1)), by omega⟩
        rw [h.data i hi t (by omega), k.data i hi t (by omega)]
theorem refComp_eq {zs : List Nat} (hz : ∀ d ∈ zs, d < 256) (hg : Good zs) : refComp zs = relaid zs (hdOf zs) :=
  relaid_unique (good_fitting hg) (refComp_is hz hg.1 (good_fitting hg)) (relaid_is hz hg)
end Go.Proofs.Ytaadeoobmclpcaa
namespace Go.Proofs.Ytaadeoobmclpcaa
open Go.ChangeShapes Go.WideShapes Go.ChangeAt Go.RowKit

theorem splice_length' {L cs : List Nat} {off : Nat} (hl : L.length = 512) (h : off + cs.length ≤ 512) : (splice L off cs).length = 512 := by rw [length_splice _ _ _ (by omega)]; exact hl
/-- A slice value: none, or a row. -/
theorem rowU_form {w : World} {B : Nat} {v : Value} {l : List Nat} (h : RowU w B v l) : ∃ ao c, v = .slice ao l.length c := by
  rcases h with ⟨rfl, rfl⟩ | ⟨g, c, rfl, _⟩
  · exact ⟨none, 0, rfl⟩
  · exact ⟨_, _, rfl⟩
theorem cellsU_form {w : World} {base k : Nat} {v : Value} {vs : List Value} {t : TypeId} (h : w.ownsRow base t 1 v k vs) : ∃ ao c, v = .slice ao k c ∧ (∀ i, (hi : i < vs.length) → ∃ G, ao = some ⟨G, 0, none⟩ ∧ w.cell? ⟨G, i, none⟩ = some vs[i] ∧ base ≤ G ∧ G < w.heap.size ∧ k ≤ c) := by
  have hl := h.1
  rcases h.2 with ⟨rfl, rfl⟩ | ⟨G, cap, cur, rfl, hB, hG, hk, _, hcs, htk⟩
  · exact ⟨none, 0, rfl, fun i hi => by omega⟩
  · refine ⟨_, _, rfl, fun i hi => ⟨G, rfl, ?_, hB, (Array.getElem?_eq_some_iff.1 hG).1, hk⟩⟩
    rw [cell_of_row w G i _ _ _ hG]
    have e : cur[i]? = vs[i]? := by rw [← htk, List.getElem?_take, if_pos (by omega), Array.getElem?_toList]
    rw [e, List.getElem?_eq_getElem hi]
/-- What the document's Compact tells. -/
def CompOut (w : World) (R : List Nat) (e : Ending) (w' : World) : Prop := ∃ g c, e = .returned (.slice (some ⟨g, 0, none⟩) 512 c) ∧ Has w' g R ∧ w.heap.size ≤ g ∧ 512 ≤ c ∧ c ≤ maxLen ∧ Below w.heap.size w w'
attribute [local irreducible] refOut refComp cellOf sizes
end Go.Proofs.Ytaadeoobmclpcaa
