/- How long the pages are that are made: plain facts. -/
import Derived.Test.YtmojfhleelhghaaPagReplace
namespace Go.Proofs.Ytmojfhleelhghaa

theorem pushed_length {zs cs : List Nat} {H : Hd} {i a : Nat} (h : a + cs.length ≤ zs.length) : (pushed zs H i a cs).length = zs.length := by
  rw [pushed, wr_length, lay_length, lay_length, length_splice _ _ _ h]
theorem insertedH_length {zs cs : List Nat} {H : Hd} {i : Nat} (hl : zs.length = 512) (hi : i ≤ H.count) (hc : 30 + 4 * H.count ≤ 512) (hm : cs.length ≤ H.low) (h5 : H.low ≤ 512) : (insertedH zs H i cs).length = 512 := by
  have hs : (splice zs (30 + 4 * i) ((zs.drop (26 + 4 * i)).take (4 * (H.count - i)))).length = 512 := by
    rw [length_splice _ _ _ (by rw [List.length_take, List.length_drop, hl]; omega)]; exact hl
  rw [← insertedH_eq, pushed_length (by rw [hs]; omega)]
  exact hs
theorem insOf_length {zs cs : List Nat} {i : Nat} (hg : Good zs) (hin : i ≤ rd zs 14 2) (hfree : 30 + 4 * rd zs 14 2 + sizes zs (rd zs 14 2) + cs.length ≤ 512) : (insOf zs i cs).length = 512 := by
  have h5 := hg.2.2.2.1
  by_cases h : 30 + 4 * rd zs 14 2 + cs.length ≤ rd zs 16 2
  · rw [insOf, if_pos h]
    exact insertedH_length hg.1 hin (by show 30 + 4 * rd zs 14 2 ≤ 512; omega) (by show cs.length ≤ rd zs 16 2; omega) h5
  · rw [insOf, if_neg h]
    exact insertedH_length (relaid_length hg) hin (by show 30 + 4 * rd zs 14 2 ≤ 512; omega) (by show cs.length ≤ 512 - sizes zs (rd zs 14 2); omega) (by show 512 - sizes zs (rd zs 14 2) ≤ 512; omega)
theorem removed_length {zs : List Nat} {i : Nat} (hg : Good zs) (hin : i < rd zs 14 2) : (removed zs i).length = 512 := by
  have h2 := hg.2.2.1
  have h5 := hg.2.2.2.1
  have hl := hg.1
  rw [← removed_eq, wr_length, lay_length, length_splice _ _ _ (by rw [List.length_take, List.length_drop, hl]; omega)]
  exact hl
theorem repOf_length {zs cs : List Nat} {i : Nat} (hz : ∀ c ∈ zs, c < 256) (hg : Good zs) (hin : i < rd zs 14 2) (hfree : cs.length ≤ rd zs (28 + 4 * i) 2 ∨ 26 + 4 * rd zs 14 2 + sizes zs (rd zs 14 2) + cs.length ≤ 512 + rd zs (28 + 4 * i) 2) : (repOf zs i cs).length = 512 := by
  have h2 := hg.2.2.1
  have h5 := hg.2.2.2.1
  have hl := hg.1
  have hcell := good_cell hg i hin
  have hz1 : (slotSet zs i (rd zs 16 2) 0).length = 512 := by rw [slotSet_length]; exact hl
  have hft := slotSet_fitting hz hg i _ hin h5
  have hft1 := hft.1
  have hzs : sizes (slotSet zs i (rd zs 16 2) 0) (rd zs 14 2) + rd zs (28 + 4 * i) 2 = sizes zs (rd zs 14 2) := slotSet_sizes hz i (rd zs 16 2) 0 (by omega) (by omega) _ hin
  rw [repOf]
  by_cases h : cs.length ≤ rd zs (28 + 4 * i) 2
  · rw [if_pos h, repIn, slotSet_length, length_splice _ _ _ (by omega)]
    exact hl
  · rw [if_neg h]
    by_cases h' : 26 + 4 * rd zs 14 2 + cs.length ≤ rd zs 16 2
    · rw [if_pos h', pushed_length (by rw [hz1]; omega)]
      exact hz1
    · rw [if_neg h']
      have hr : (relaid (slotSet zs i (rd zs 16 2) 0) (hdOf zs)).length = 512 := by
        rw [relaid, wr_length]; exact relOut_length hz1 hft (Nat.le_refl _)
      rw [pushed_length (by rw [hr]; omega)]
      exact hr
end Go.Proofs.Ytmojfhleelhghaa
