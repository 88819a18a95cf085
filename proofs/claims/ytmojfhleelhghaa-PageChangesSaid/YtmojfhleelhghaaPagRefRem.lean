/- The document's own page without a cell; no room: contracts. -/
import Derived.Test.YtmojfhleelhghaaPagReplace
import Derived.Test.YtmojfhleelhghaaPagRefIns
namespace Go.Proofs.Ytmojfhleelhghaa
open Go.ChangeShapes Go.WideShapes Go.ChangeAt Go.RowKit

set_option maxHeartbeats 1000000 in
theorem ref_insert_full {gs off : Nat} {ca : Option Addr} {cap ccap m : Nat} {zs : List Nat} (i : Int) {w : World} (hb : BytesAt w (some ⟨gs, off, none⟩) zs) (hg : Good zs) (hm : m ≤ 140737488351232)
    (hfree : 512 < 30 + 4 * rd zs 14 2 + sizes zs (rd zs 14 2) + m) :
    Calls Try.prog 13 #[.slice (some ⟨gs, off, none⟩) 512 cap, .int .i64 i, .slice ca m ccap] w fun e w' => e = .returned (.tuple #[.slice none 0 0, .bool false]) ∧ w = w' := by
  have hl := hg.1
  have hf1 := (good_fitting hg).1
  have h2 := hg.2.2.1
  have h5 := hg.2.2.2.1
  have HFR := Lib.hid (ref_free (cap := cap) hb hl (by omega))
  obtain ⟨n, hn⟩ : ∃ n, n = rd zs 14 2 := ⟨_, rfl⟩
  obtain ⟨S, hS⟩ : ∃ S, S = sizes zs n := ⟨_, rfl⟩
  rw [← hn] at HFR hf1 hfree
  rw [← hS] at HFR hf1 hfree
  obtain ⟨y, hy⟩ : ∃ y : Nat, (486 : Int) - 4 * (n : Int) - (S : Int) = (y : Int) := ⟨486 - 4 * n - S, by omega⟩
  rw [hy] at HFR
  have hym : y < m + 4 := by omega
  have hy5 : y ≤ 486 := by omega
  clear hb hg hl hn hS hy hf1 h2 h5 hfree
  go_enter Try.func13, Try.ntmps13
  go_wp2_with (go_at_call 34; refine HFR.out.mono ?_; rintro e w' ⟨rfl, rfl⟩)
  go_ret2
  exact ⟨rfl, rfl⟩
attribute [local irreducible] shDown slotSet lay splice removed refRem
set_option maxHeartbeats 4000000 in
set_option maxRecDepth 100000 in
theorem ref_remove {gs off cap : Nat} {zs : List Nat} (i : Nat) {w : World} (hb : BytesAt w (some ⟨gs, off, none⟩) zs) (hg : Good zs) (hin : i < rd zs 14 2) :
    Calls Try.prog 15 #[.slice (some ⟨gs, off, none⟩) 512 cap, .int .i64 (i : Int)] w (CompOut w (removed zs i)) := by
  have hl := hg.1
  have h2 := hg.2.2.1
  have h5 := hg.2.2.2.1
  have HCP := Lib.hid (ref_copy (cap := cap) hb hl)
  have HCT : Hid (∀ V, Below w.heap.size w V → Calls Try.prog 12 #[.slice (some ⟨gs, off, none⟩) 512 cap] V fun e w' => e = .returned (.int .i64 (rd zs 14 2 : Int)) ∧ V = w') := Lib.hid (fun V hV => ref_count (bytes_below hb hV) hl)
  have hgs : gs < w.heap.size := by
    obtain ⟨b, o, e, hc⟩ := hb.2.2 0 (by omega)
    cases e
    exact World.block_lt_of_cell? w _ hc
  have HGS := Lib.hid hgs
  have HBY := Lib.hid hb
  have HZ := Lib.hid hb.1
  have HL := Lib.hid hl
  have HEQ := Lib.hid (refRem_eq hb.1 hg hin)
  obtain ⟨n, hn⟩ : ∃ n, n = rd zs 14 2 := ⟨_, rfl⟩
  rw [← hn] at HCT HEQ hin h2
  have hn5 : n ≤ 121 := by omega
  have HSD : Hid (∀ k, i ≤ k → k + 1 ≤ n → (shDown zs i k).length = 512) := Lib.hid (fun k h1 h3 => shDown_length HL.out h1 (by omega))
  have HST : Hid (∀ k, i ≤ k → k + 1 < n → slotSet (shDown zs i k) k (rd zs (30 + 4 * k) 2) (rd zs (32 + 4 * k) 2) = shDown zs i (k + 1)) := Lib.hid (fun k h1 h3 => shDown_step HZ.out HL.out h1 (by omega))
  clear hb hl hg hn h2 h5 hgs
  go_enter Try.func15, Try.ntmps15
  go_wp2_with fail
  refine HCP.out.mono ?_
  rintro e w1 ⟨g, c, rfl, hh1, hs1, hc1, hc1', hb1⟩
  have HH1 : Hid (Has w1 g (shDown zs i i)) := Lib.hid (by rw [shDown_first]; exact hh1)
  have HB1 := Lib.hid hb1
  have HS1 := Lib.hid hs1
  have HC1 := Lib.hid hc1'
  have HNE : Hid (gs ≠ g) := Lib.hid (by have := HGS.out; omega)
  clear hh1 hb1 hs1 hc1'
  go_wp2_with fail
  refine (HCT.out w1 HB1.out).mono ?_
  rintro e w' ⟨rfl, rfl⟩
  go_wp2
  go_loopw [7, 8, 9] (fun kk _ _ wr => ∃ k : Nat, i ≤ k ∧ k < n ∧ kk = .int .i64 k ∧ Hid (Has wr g (shDown zs i k)) ∧ Hid (Turned g w1 wr)) (fun kk _ _ _ => (n - (intOf kk)).toNat)
  case atStart => exact ⟨i, Nat.le_refl _, hin, rfl, HH1, Lib.hid (turned_refl _ _)⟩
  case round =>
    obtain ⟨k, hik, hkn, rfl, HH, HT⟩ := hrel
    by_cases hlt : k + 1 < n
    · have hby : BytesAt wr (some ⟨gs, off, none⟩) zs := bytes_turned (bytes_below HBY.out HB1.out) HT.out HNE.out
      have HBW := Lib.hid hby
      have b1 := rd2 HZ.out (30 + 4 * k) (by have := HL.out; omega)
      have b2 := rd2 HZ.out (32 + 4 * k) (by have := HL.out; omega)
      have e3 := HST.out k hik hlt
      have e4 : 26 + 4 * (k + 1) = 30 + 4 * k := by omega
      have e5 : 28 + 4 * (k + 1) = 32 + 4 * k := by omega
      obtain ⟨x, hx⟩ : ∃ x, x = rd zs (30 + 4 * k) 2 := ⟨_, rfl⟩
      obtain ⟨y2, hy2⟩ : ∃ y2, y2 = rd zs (32 + 4 * k) 2 := ⟨_, rfl⟩
      rw [← hx] at e3 b1
      rw [← hy2] at e3 b2
      have hSA : ∀ ii : Int, ii = ((k + 1 : Nat) : Int) → Calls Try.prog 32 #[.slice (some ⟨gs, off, none⟩) 512 cap, .int .i64 ii] wr fun e w' => e = .returned (.tuple #[.int .i64 (x : Int), .int .i64 (y2 : Int)]) ∧ wr = w' := fun ii hii => by
        have := slot_at (cap := cap) (k + 1) HBW.out HL.out (by omega) hii
        rw [e4, e5, ← hx, ← hy2] at this
        exact this
      have HSA := Lib.hid hSA
      have HE3 := Lib.hid e3
      clear hby e3 e4 e5 hx hy2 hSA
      go_wp2_with fail
      refine (HSA.out _ (by omega)).mono ?_
      rintro e w' ⟨rfl, rfl⟩
      go_wp2_with fail
      refine (put_at (26 + 4 * k) x 2 (by decide) (HSD.out k hik (by omega)) (by omega) HH.out (by omega) rfl rfl).mono ?_
      rintro e w5 ⟨rfl, hh5, ht5⟩
      have HH5 := Lib.hid hh5
      have HT5 : Hid (Turned g w1 w5) := Lib.hid (turned_trans HT.out ht5)
      clear hh5 ht5
      go_wp2_with fail
      refine (put_at (28 + 4 * k) y2 2 (by decide) (by rw [lay_length]; exact HSD.out k hik (by omega)) (by omega) HH5.out (by omega) rfl rfl).mono ?_
      rintro e w6 ⟨rfl, hh6, ht6⟩
      rw [slotSet_lay, HE3.out] at hh6
      have HH6 := Lib.hid hh6
      have HT6 : Hid (Turned g w1 w6) := Lib.hid (turned_trans HT5.out ht6)
      clear hh6 ht6
      go_wp2
      go_roundw
      case rel => exact ⟨k + 1, by omega, by omega, by go_num, HH6, HT6⟩
      case measure => simp [intOf]; omega
    · obtain ⟨d, rfl⟩ : ∃ d, n = d + 1 := ⟨n - 1, by omega⟩
      obtain rfl : k = d := by omega
      have HLS := Lib.hid (HSD.out k hik (Nat.le_refl _))
      go_wp2_with fail
      refine (put_at (26 + 4 * k) 0 4 (by decide) HLS.out (by omega) HH.out (by omega) rfl rfl).mono ?_
      rintro e w5 ⟨rfl, hh5, ht5⟩
      have HH5 := Lib.hid hh5
      have HT5 : Hid (Turned g w1 w5) := Lib.hid (turned_trans HT.out ht5)
      clear hh5 ht5
      go_wp2_with fail
      refine (put_at 14 k 2 (by decide) (by rw [lay_length]; exact HLS.out) (by decide) HH5.out rfl (by omega) rfl).mono ?_
      rintro e w6 ⟨rfl, hh6, ht6⟩
      have HH6 := Lib.hid hh6
      have HT6 : Hid (Turned g w1 w6) := Lib.hid (turned_trans HT5.out ht6)
      clear hh6 ht6
      have e22 : 22 + 4 * (k + 1) = 26 + 4 * k := by omega
      have HEQ' : Hid ((if k + 1 = 1 then lay (lay (lay (shDown zs i k) (26 + 4 * k) 0 4) 14 k 2) 16 512 2 else lay (lay (shDown zs i k) (26 + 4 * k) 0 4) 14 k 2) = removed zs i) := Lib.hid (by
        have h := HEQ.out
        rw [refRem, e22, Nat.add_sub_cancel] at h
        exact h)
      clear e22
      by_cases hk0 : k = 0
      · have HEQ0 : Hid (lay (lay (lay (shDown zs i k) (26 + 4 * k) 0 4) 14 k 2) 16 512 2 = removed zs i) := Lib.hid (by have h := HEQ'.out; rwa [if_pos (by omega)] at h)
        have hd : (((k + 1 : Nat) : Int) == 1) = true := by rw [beq_iff_eq]; omega
        have hd' : (((k : Int) + 1) == 1) = true := by rw [beq_iff_eq]; omega
        have HK0 := Lib.hid hk0
        clear hk0
        go_wp2_with fail
        refine (put_at 16 512 2 (by decide) (by rw [lay_length, lay_length]; exact HLS.out) (by decide) HH6.out rfl rfl rfl).mono ?_
        rintro e w7 ⟨rfl, hh7, ht7⟩
        rw [HEQ0.out] at hh7
        have HH7 := Lib.hid hh7
        have HT7 : Hid (Turned g w1 w7) := Lib.hid (turned_trans HT6.out ht7)
        clear hh7 ht7
        go_wp2
        go_ret
        exact ⟨g, c, rfl, HH7.out, HS1.out, hc1, HC1.out, below_turned HB1.out HT7.out HS1.out HB1.out.size⟩
      · have HEQ0 : Hid (lay (lay (shDown zs i k) (26 + 4 * k) 0 4) 14 k 2 = removed zs i) := Lib.hid (by have h := HEQ'.out; rwa [if_neg (by omega)] at h)
        have hd : (((k + 1 : Nat) : Int) == 1) = false := by rw [beq_eq_false_iff_ne]; omega
        have hd' : (((k : Int) + 1) == 1) = false := by rw [beq_eq_false_iff_ne]; omega
        go_wp2
        go_ret
        exact ⟨g, c, rfl, by rw [← HEQ0.out]; exact HH6.out, HS1.out, hc1, HC1.out, below_turned HB1.out HT6.out HS1.out HB1.out.size⟩
end Go.Proofs.Ytmojfhleelhghaa
namespace Go.Proofs.Ytmojfhleelhghaa

theorem hdOf_lay_hi {X : List Nat} (hl : X.length = 512) (q x m : Nat) (hq : 26 ≤ q) (h : q + m ≤ 512) : hdOf (lay X q x m) = hdOf X :=
  hdOf_congr (lay_length _ _ _ _) (fun j hj => by rw [lay_get _ _ _ _ (by omega), if_neg (by omega)])
theorem lay_same {zs : List Nat} (hz : ∀ c ∈ zs, c < 256) (q : Nat) (h : q + 2 ≤ zs.length) : lay zs q (rd zs q 2) 2 = zs := by
  refine list_ext (lay_length _ _ _ _) (fun j hj => ?_)
  rw [lay_get _ _ _ _ h]
  by_cases h1 : q ≤ j ∧ j < q + 2
  · rw [if_pos h1, rd_byte hz q 2 (j - q) (by omega), show q + (j - q) = j from by omega]
  · rw [if_neg h1]
theorem repIn_eq {zs cs : List Nat} (hz : ∀ c ∈ zs, c < 256) (hl : zs.length = 512) {i : Nat} (hi : 30 + 4 * i ≤ rd zs (26 + 4 * i) 2) (h : rd zs (26 + 4 * i) 2 + cs.length ≤ 512) :
    splice (lay zs (28 + 4 * i) cs.length 2) (rd zs (26 + 4 * i) 2) cs = repIn zs i cs := by
  have h1 : (lay zs (28 + 4 * i) cs.length 2).length = 512 := by rw [lay_length]; exact hl
  have h2 : (splice zs (rd zs (26 + 4 * i) 2) cs).length = 512 := splice_length' hl h
  rw [repIn]
  refine list_ext (by rw [splice_length' h1 h, slotSet_length]; exact h2.symm) (fun j hj => ?_)
  rw [splice_get _ _ _ (by omega), slotSet_get _ _ _ _ (by omega), splice_get _ _ _ (by omega), lay_get _ _ _ _ (by omega)]
  by_cases h3 : rd zs (26 + 4 * i) 2 ≤ j ∧ j < rd zs (26 + 4 * i) 2 + cs.length
  · rw [if_pos h3, if_neg (by omega), if_neg (by omega), if_pos h3]
  · rw [if_neg h3]
    by_cases h4 : 28 + 4 * i ≤ j ∧ j < 28 + 4 * i + 2
    · rw [if_pos h4, if_pos h4]
    · rw [if_neg h4, if_neg h4]
      by_cases h5 : 26 + 4 * i ≤ j ∧ j < 26 + 4 * i + 2
      · rw [if_pos h5, rd_byte hz (26 + 4 * i) 2 (j - (26 + 4 * i)) (by omega), show 26 + 4 * i + (j - (26 + 4 * i)) = j from by omega]
      · rw [if_neg h5, if_neg h3]
/-- The bytes of a larger cell laid in, as the document says it. -/
def refPush (X : List Nat) (i a : Nat) (cs : List Nat) : List Nat := splice (lay (lay (lay X 16 a 2) (26 + 4 * i) a 2) (28 + 4 * i) cs.length 2) a cs
theorem refPush_eq {X Y cs : List Nat} (hz : ∀ c ∈ X, c < 256) (hy : ∀ c ∈ Y, c < 256) (hl : X.length = 512) (hl' : Y.length = 512) (hc : ∀ c ∈ cs, c < 256) {i a : Nat} {H : Hd} (hF : H.Fits) (hh : { hdOf X with low := a } = { H with low := a })
    (hi : 30 + 4 * i ≤ a) (ha : a + cs.length ≤ 512) (hr : ∀ j, j < 26 + 4 * i ∨ 30 + 4 * i ≤ j → 26 ≤ j → j < 512 → X.getD j 0 = Y.getD j 0) : refPush X i a cs = pushed Y H i a cs := by
  have l1 : (lay X 16 a 2).length = 512 := by rw [lay_length]; exact hl
  have l2 : (lay (lay X 16 a 2) (26 + 4 * i) a 2).length = 512 := by rw [lay_length]; exact l1
  have l3 : (lay (lay (lay X 16 a 2) (26 + 4 * i) a 2) (28 + 4 * i) cs.length 2).length = 512 := by rw [lay_length]; exact l2
  have m1 : (splice Y a cs).length = 512 := splice_length' hl' ha
  have m2 : (lay (splice Y a cs) (26 + 4 * i) a 2).length = 512 := by rw [lay_length]; exact m1
  have m3 : (lay (lay (splice Y a cs) (26 + 4 * i) a 2) (28 + 4 * i) cs.length 2).length = 512 := by rw [lay_length]; exact m2
  rw [refPush, pushed]
  refine wr_eq (splice_bytes (lay_bytes _ _ (lay_bytes _ _ (lay_bytes _ _ hz _) _) _) hc _) (lay_bytes _ _ (lay_bytes _ _ (splice_bytes hy hc _) _) _) m3 (splice_length' l3 ha) ⟨hF.1, hF.2.1, hF.2.2.1, hF.2.2.2.1, hF.2.2.2.2.1, hF.2.2.2.2.2.1, hF.2.2.2.2.2.2.1, by show a < 65536; omega⟩ ?_ (fun j h1 h2 => ?_)
  · rw [hdOf_splice l3 ha (by omega), hdOf_lay_hi l2 _ _ _ (by omega) (by omega), hdOf_lay_hi l1 _ _ _ (by omega) (by omega), hdOf_low hz hl _ (by omega)]
    exact hh
  · rw [splice_get _ _ _ (by omega), lay_get _ _ _ _ (by omega), lay_get _ _ _ _ (by omega), lay_get _ _ _ _ (by omega), if_neg (show ¬ (16 ≤ j ∧ j < 16 + 2) by omega), lay_get _ _ _ _ (by omega), lay_get _ _ _ _ (by omega), splice_get _ _ _ (by omega)]
    by_cases h3 : a ≤ j ∧ j < a + cs.length
    · rw [if_pos h3, if_neg (by omega), if_neg (by omega), if_pos h3]
    · rw [if_neg h3, if_neg h3]
      by_cases h4 : 28 + 4 * i ≤ j ∧ j < 28 + 4 * i + 2
      · rw [if_pos h4, if_pos h4]
      · rw [if_neg h4, if_neg h4]
        by_cases h5 : 26 + 4 * i ≤ j ∧ j < 26 + 4 * i + 2
        · rw [if_pos h5, if_pos h5]
        · rw [if_neg h5, if_neg h5]
          exact hr j (by omega) h1 h2
/-- What a page laid out anew holds, with the room of its cells alone. -/
theorem relaid_is' {zs : List Nat} (hz : ∀ c ∈ zs, c < 256) (hl : zs.length = 512) (hf : Fitting zs (rd zs 14 2)) : Relaid zs (relaid zs (hdOf zs)) := by
  have h1 := hf.1
  have h := relTo_all hz hl hf _ (Nat.le_refl _)
  have hF := hdRel_fits hz hl
  have h26 : 26 ≤ (relOut zs (rd zs 14 2) (rd zs 14 2)).length := by rw [h.len]; decide
  rw [relaid_eq]
  refine ⟨by rw [wr_length]; exact h.len, wr_bytes h.byte hF, wr_hdOf h.byte h26 hF, fun i hi => ?_, fun i hi => ?_, fun i hi t ht => ?_, fun j h2 hj => ?_⟩
  · rw [wr_rd _ _ h26 (by omega)]; exact h.slotA i hi
  · rw [wr_rd _ _ h26 (by omega)]; exact h.slotB i hi
  · have := sizes_mono zs (show i + 1 ≤ rd zs 14 2 from hi)
    rw [wr_rest _ _ h26 (by omega)]; exact h.data i hi t ht
  · rw [wr_rest _ _ h26 (by omega)]; exact h.none j h2 hj
/-- An emptied cell's place doesn't matter. -/
theorem relaid_move {zs Q : List Nat} (hz : ∀ c ∈ zs, c < 256) (hg : Good zs) {i x y : Nat} (hi : i < rd zs 14 2) (h : Relaid (slotSet zs i x 0) Q) : Relaid (slotSet zs i y 0) Q := by
  have hl := hg.1
  have h2 := hg.2.2.1
  have h5 := hg.2.2.2.1
  have hi30 : 30 + 4 * i ≤ zs.length := by omega
  have cx := slotSet_count (zs := zs) i x 0 hi30
  have cy := slotSet_count (zs := zs) i y 0 hi30
  have hs : ∀ k, k ≤ rd zs 14 2 → sizes (slotSet zs i y 0) k = sizes (slotSet zs i x 0) k := fun k hk => by
    by_cases e : k ≤ i
    · rw [slotSet_sizes_lo _ _ _ hi30 k e, slotSet_sizes_lo _ _ _ hi30 k e]
    · have a1 := slotSet_sizes hz i x 0 hi30 (by omega) k (by omega)
      have a2 := slotSet_sizes hz i y 0 hi30 (by omega) k (by omega)
      omega
  have hw : ∀ k, rd (slotSet zs i y 0) (28 + 4 * k) 2 = rd (slotSet zs i x 0) (28 + 4 * k) 2 := fun k => by
    by_cases e : k = i
    · rw [e, slotSet_size hz i y 0 hi30 (by omega), slotSet_size hz i x 0 hi30 (by omega)]
    · rw [slotSet_other _ _ _ hi30 _ _ (by omega), slotSet_other _ _ _ hi30 _ _ (by omega)]
  have hd : hdRel (slotSet zs i y 0) = hdRel (slotSet zs i x 0) := by
    rw [hdRel, hdRel, hdOf_slotSet hl _ _ _ (by omega), hdOf_slotSet hl _ _ _ (by omega), cx, cy, hs _ (Nat.le_refl _)]
  refine ⟨h.len, h.byte, by rw [hd]; exact h.hd, fun k hk => ?_, fun k hk => ?_, fun k hk t ht => ?_, fun j h1 h3 => ?_⟩
  · rw [cy] at hk
    rw [hs _ hk]; exact h.slotA k (by rw [cx]; exact hk)
  · rw [cy] at hk
    rw [hw]; exact h.slotB k (by rw [cx]; exact hk)
  · rw [cy] at hk
    have e0 := ht
    rw [hw] at e0
    rw [hs _ hk, h.data k (by rw [cx]; exact hk) t e0, cellOf_get e0, cellOf_get ht]
    have e : k ≠ i := fun e => by
      rw [e, slotSet_size hz i y 0 hi30 (by omega)] at ht
      omega
    rw [slotSet_other _ _ _ hi30 _ _ (by omega)] at ht
    have h7 := good_low hg k hk
    rw [slotSet_other i x _ hi30 _ _ (by omega), slotSet_other i y _ hi30 _ _ (by omega)]
    have h8 : 30 + 4 * i ≤ rd zs (26 + 4 * k) 2 := by omega
    rw [slotSet_get _ _ _ _ hi30, slotSet_get _ _ _ _ hi30, if_neg (by omega), if_neg (by omega), if_neg (by omega), if_neg (by omega)]
  · rw [cy] at h1 h3
    rw [hs _ (Nat.le_refl _)] at h3
    exact h.none j (by rw [cx]; exact h1) (by rw [cx]; exact h3)
/-- The page out of which the document lays anew, when a cell grows. -/
def repZ (zs : List Nat) (i : Nat) : List Nat := lay zs (28 + 4 * i) 0 2
theorem repZ_eq {zs : List Nat} (hz : ∀ c ∈ zs, c < 256) (hl : zs.length = 512) {i : Nat} (hi : 30 + 4 * i ≤ 512) : repZ zs i = slotSet zs i (rd zs (26 + 4 * i) 2) 0 := by
  rw [repZ, slotSet, lay_same hz _ (by omega)]
theorem repZ_length {zs : List Nat} (hl : zs.length = 512) (i : Nat) : (repZ zs i).length = 512 := by rw [repZ, lay_length]; exact hl
theorem repZ_bytes {zs : List Nat} (hz : ∀ c ∈ zs, c < 256) (i : Nat) : ∀ c ∈ repZ zs i, c < 256 := lay_bytes _ _ hz _
theorem repZ_count {zs : List Nat} (hl : zs.length = 512) {i : Nat} (hi : 30 + 4 * i ≤ 512) : rd (repZ zs i) 14 2 = rd zs 14 2 := rd_lay_other _ _ _ _ _ (by omega) (by omega)
theorem repZ_low {zs : List Nat} (hl : zs.length = 512) {i : Nat} (hi : 30 + 4 * i ≤ 512) : rd (repZ zs i) 16 2 = rd zs 16 2 := rd_lay_other _ _ _ _ _ (by omega) (by omega)
theorem repZ_fitting {zs : List Nat} (hz : ∀ c ∈ zs, c < 256) (hg : Good zs) {i : Nat} (hi : i < rd zs 14 2) : Fitting (repZ zs i) (rd (repZ zs i) 14 2) := by
  have h2 := hg.2.2.1
  have h5 := hg.2.2.2.1
  have h6 := good_cell hg i hi
  rw [repZ_count hg.1 (by omega), repZ_eq hz hg.1 (by omega)]
  exact slotSet_fitting hz hg i _ hi (by omega)
theorem repZ_sizes {zs : List Nat} (hz : ∀ c ∈ zs, c < 256) (hg : Good zs) {i : Nat} (hi : i < rd zs 14 2) : sizes (repZ zs i) (rd zs 14 2) + rd zs (28 + 4 * i) 2 = sizes zs (rd zs 14 2) := by
  have h2 := hg.2.2.1
  have h5 := hg.2.2.2.1
  have hl := hg.1
  have h6 := good_cell hg i hi
  rw [repZ_eq hz hg.1 (by omega)]
  exact slotSet_sizes hz i _ 0 (by omega) (by omega) _ hi
theorem repZ_comp {zs : List Nat} (hz : ∀ c ∈ zs, c < 256) (hg : Good zs) {i : Nat} (hi : i < rd zs 14 2) : Relaid (repZ zs i) (refComp (repZ zs i)) := refComp_is (repZ_bytes hz i) (repZ_length hg.1 i) (repZ_fitting hz hg hi)
theorem repZ_relaid {zs : List Nat} (hz : ∀ c ∈ zs, c < 256) (hg : Good zs) {i : Nat} (hi : i < rd zs 14 2) : refComp (repZ zs i) = relaid (slotSet zs i (rd zs 16 2) 0) (hdOf zs) := by
  have h2 := hg.2.2.1
  have h5 := hg.2.2.2.1
  have hl := hg.1
  refine relaid_unique (repZ_fitting hz hg hi) (repZ_comp hz hg hi) ?_
  rw [repZ_eq hz hg.1 (by omega)]
  refine relaid_move hz hg (x := rd zs 16 2) hi ?_
  have h := relaid_is' (slotSet_bytes' hz i (rd zs 16 2) 0) (by rw [slotSet_length]; exact hl) (by rw [slotSet_count _ _ _ (by omega)]; exact slotSet_fitting hz hg i _ hi (by omega))
  rw [hdOf_slotSet hl _ _ _ (by omega)] at h
  exact h
theorem repGrow_room {zs cs : List Nat} (hz : ∀ c ∈ zs, c < 256) (hg : Good zs) (hc : ∀ c ∈ cs, c < 256) {i : Nat} (hi : i < rd zs 14 2) (hgt : rd zs (28 + 4 * i) 2 < cs.length) (hm : 26 + 4 * rd zs 14 2 + cs.length ≤ rd zs 16 2) :
    refPush (repZ zs i) i (rd zs 16 2 - cs.length) cs = repOf zs i cs := by
  have h2 := hg.2.2.1
  have h5 := hg.2.2.2.1
  have hl := hg.1
  rw [repOf, if_neg (by omega), if_pos hm]
  refine refPush_eq (repZ_bytes hz i) (slotSet_bytes' hz i _ _) (repZ_length hl i) (by rw [slotSet_length]; exact hl) hc (hdOf_fits hz (by omega)) ?_ (by omega) (by omega) (fun j h3 h4 h6 => ?_)
  · rw [repZ, hdOf_lay_hi hl _ _ _ (by omega) (by omega)]
  · rw [repZ, lay_get _ _ _ _ (by omega), if_neg (by omega), slotSet_get _ _ _ _ (by omega), if_neg (by omega), if_neg (by omega)]
theorem repGrow_anew {zs cs : List Nat} (hz : ∀ c ∈ zs, c < 256) (hg : Good zs) (hc : ∀ c ∈ cs, c < 256) {i : Nat} (hi : i < rd zs 14 2) (hgt : rd zs (28 + 4 * i) 2 < cs.length) (hm : ¬ 26 + 4 * rd zs 14 2 + cs.length ≤ rd zs 16 2)
    (hfree : 26 + 4 * rd zs 14 2 + sizes (repZ zs i) (rd zs 14 2) + cs.length ≤ 512) :
    refPush (refComp (repZ zs i)) i (512 - sizes (repZ zs i) (rd zs 14 2) - cs.length) cs = repOf zs i cs := by
  have h2 := hg.2.2.1
  have h5 := hg.2.2.2.1
  have hl := hg.1
  have hR := repZ_comp hz hg hi
  have hs : sizes (slotSet zs i (rd zs 16 2) 0) (rd zs 14 2) = sizes (repZ zs i) (rd zs 14 2) := by
    have a1 := slotSet_sizes hz i (rd zs 16 2) 0 (by omega) (by omega) (rd zs 14 2) hi
    have a2 := repZ_sizes hz hg hi
    omega
  have hhd : hdOf (refComp (repZ zs i)) = { hdOf zs with low := 512 - sizes (repZ zs i) (rd zs 14 2) } := by
    rw [hR.hd, hdRel, repZ_count hl (by omega)]
    rw [show hdOf (repZ zs i) = hdOf zs from by rw [repZ, hdOf_lay_hi hl _ _ _ (by omega) (by omega)]]
  have hF := hdOf_fits hz (by omega : 26 ≤ zs.length)
  rw [repOf, if_neg (by omega), if_neg hm, hs, ← repZ_relaid hz hg hi]
  refine refPush_eq hR.byte hR.byte hR.len hR.len hc ⟨hF.1, hF.2.1, hF.2.2.1, hF.2.2.2.1, hF.2.2.2.2.1, hF.2.2.2.2.2.1, hF.2.2.2.2.2.2.1, by show 512 - _ < 65536; omega⟩ ?_ (by omega) (by omega) (fun _ _ _ _ => rfl)
  rw [hhd]
end Go.Proofs.Ytmojfhleelhghaa
namespace Go.Proofs.Ytmojfhleelhghaa
open Go.ChangeShapes Go.WideShapes Go.ChangeAt Go.RowKit

attribute [local irreducible] slotSet relaid refComp lay splice repOf repZ repIn
set_option maxHeartbeats 4000000 in
set_option maxRecDepth 100000 in
theorem ref_replace_in {gs off : Nat} {ca : Option Addr} {cap ccap : Nat} {zs cs : List Nat} (i : Nat) {w : World} (hb : BytesAt w (some ⟨gs, off, none⟩) zs) (hg : Good zs) (hc : BytesAt w ca cs)
    (hin : i < rd zs 14 2) (hle : cs.length ≤ rd zs (28 + 4 * i) 2) :
    Calls Try.prog 14 #[.slice (some ⟨gs, off, none⟩) 512 cap, .int .i64 (i : Int), .slice ca cs.length ccap] w (InsOut w (repOf zs i cs)) := by
  have hl := hg.1
  have h2 := hg.2.2.1
  have h5 := hg.2.2.2.1
  have h6 := good_cell hg i hin
  have h7 := good_low hg i hin
  have hf1 := (good_fitting hg).1
  have HSLT := Lib.hid (slot_at (cap := cap) i hb hl (by omega) rfl)
  have HCP := Lib.hid (ref_copy (cap := cap) hb hl)
  have HFR := Lib.hid (ref_free (cap := cap) hb hl (by omega))
  have HZ := Lib.hid hb.1
  have HL := Lib.hid hl
  have HG := Lib.hid hg
  have HCS := Lib.hid hc
  have HIN := Lib.hid hin
  have HEND : Hid (splice (lay zs (28 + 4 * i) cs.length 2) (rd zs (26 + 4 * i) 2) cs = repOf zs i cs) := Lib.hid (by rw [repIn_eq hb.1 hl (by omega) (by omega), repOf, if_pos hle])
  obtain ⟨x, hx⟩ : ∃ x, x = rd zs (26 + 4 * i) 2 := ⟨_, rfl⟩
  obtain ⟨y, hy⟩ : ∃ y, y = rd zs (28 + 4 * i) 2 := ⟨_, rfl⟩
  obtain ⟨m, hm⟩ : ∃ m, m = cs.length := ⟨_, rfl⟩
  have HM := Lib.hid hm
  rw [← hx] at HSLT HEND h6 h7
  rw [← hy] at HSLT hle h6
  rw [← hm] at hle HEND ⊢
  have hx30 : 30 + 4 * i ≤ x := by omega
  have hxm : x + m ≤ 512 := by omega
  have hy5 : y ≤ 512 := by omega
  have hi5 : i ≤ 121 := by omega
  clear hb hl hg hc hx hy hm h2 h5 h7 hin hf1
  go_enter Try.func14, Try.ntmps14
  go_wp2_with fail
  refine HSLT.out.mono ?_
  rintro e w' ⟨rfl, rfl⟩
  go_wp2_with fail
  refine HCP.out.mono ?_
  rintro e w1 ⟨g, c, rfl, hh1, hs1, hc1, hc1', hb1⟩
  have HH1 := Lib.hid hh1
  have HB1 := Lib.hid hb1
  have HSX := Lib.hid hs1
  clear hh1 hb1 hs1 hc1'
  go_wp2_with fail
  refine (put_at (28 + 4 * i) m 2 (by decide) HL.out (by omega) HH1.out (by omega) rfl rfl).mono ?_
  rintro e w5 ⟨rfl, hh5, ht5⟩
  have HHW := Lib.hid hh5
  have HBW : Hid (Below w.heap.size w w5) := Lib.hid (below_turned HB1.out ht5 HSX.out HB1.out.size)
  have HZL0 : Hid ((lay zs (28 + 4 * i) m 2).length = 512) := Lib.hid (by rw [lay_length]; exact HL.out)
  obtain ⟨Z, hZ⟩ : ∃ Z, Z = lay zs (28 + 4 * i) m 2 := ⟨_, rfl⟩
  rw [← hZ] at HHW HZL0 HEND
  have HZL := HZL0
  clear hh5 ht5 hZ
  have HL8 : Hid ((Z).length = 512) := HZL
  have HB8 : Hid (Below w.heap.size w w5) := HBW
  have HY0 : Hid (Has w5 g (splice Z x (cs.take 0))) := Lib.hid (by rw [List.take_zero, splice_nil]; exact HHW.out)
  have HYL : Hid (∀ t, t ≤ m → (splice Z x (cs.take t)).length = 512) := Lib.hid (fun t ht => splice_length' HZL.out (by rw [List.length_take, ← HM.out]; omega))
  have HYS : Hid (∀ t, (ht : t < cs.length) → (splice Z x (cs.take t)).set (x + t) cs[t] = splice Z x (cs.take (t + 1))) := Lib.hid (fun t ht => splice_step (by rw [HZL.out, ← HM.out]; omega) ht)
  go_wp2
  go_loopw [11] (fun tt wr => ∃ t : Nat, t ≤ m ∧ tt = .int .i64 t ∧ Hid (Has wr g (splice Z x (cs.take t))) ∧ Hid (Turned g w5 wr)) (fun tt _ => (m - (intOf tt)).toNat)
  case atStart => exact ⟨0, Nat.zero_le _, rfl, HY0, Lib.hid (turned_refl _ _)⟩
  case round =>
    obtain ⟨t, ht, rfl, HHt, HTt⟩ := hrel
    by_cases htm : t < m
    · have htc : t < cs.length := by rw [← HM.out]; exact htm
      obtain ⟨bc, oc, rfl, hcc⟩ := HCS.out.2.2 t htc
      have hne : bc ≠ g := by
        have h1 := World.block_lt_of_cell? w _ hcc
        have h1' : bc < w.heap.size := h1
        have h2 := HSX.out
        omega
      have csrc : wr.cell? ⟨bc, oc + t, none⟩ = some (.int .u8 (cs[t] : Int)) := by
        have hlt := World.block_lt_of_cell? w _ hcc
        have h8 := (HB8.out.cell (p := ⟨bc, oc + t, none⟩) hlt).trans hcc
        rw [World.cell?_of_block (HTt.out.block bc (World.block_lt_of_cell? w5 _ h8) (fun e => hne (by cases e; rfl)))]
        exact h8
      obtain ⟨c9, hold⟩ : ∃ c9 : Nat, wr.cell? ⟨g, x + t, none⟩ = some (.int .u8 (c9 : Int)) := ⟨_, has_get HHt.out (j := x + t) (by rw [HYL.out t ht]; omega)⟩
      have hfz := has_frozen HHt.out (x + t)
      have HNX : Hid (Has (wr.setCell ⟨g, x + t, none⟩ (.int .u8 (cs[t] : Int))) g (splice Z x (cs.take (t + 1)))) := Lib.hid (by
        rw [← HYS.out t htc]; exact has_set HHt.out _ _ (by rw [HYL.out t ht]; omega))
      obtain ⟨d, hd⟩ : ∃ d, d = cs[t] := ⟨_, rfl⟩
      rw [← hd] at csrc HNX
      clear hd hcc
      go_wp2
      go_roundw
      case rel => exact ⟨t + 1, by omega, by go_num, HNX, Lib.hid (turned_set HTt.out _ _)⟩
      case measure => simp [intOf]; omega
    · obtain rfl : t = m := by omega
      have HE : Hid (InsOut w (repOf zs i cs) (.returned (.tuple #[.slice (some ⟨g, 0, none⟩) 512 c, .bool true])) wr) := Lib.hid ⟨_, _, rfl, by rw [← HEND.out]; have h := HHt.out; rw [List.take_of_length_le (by rw [← HM.out]; exact Nat.le_refl _)] at h; exact h, HSX.out, below_turned HB8.out HTt.out HSX.out HB8.out.size⟩
      go_wp2
      go_ret2
      exact HE.out
set_option maxHeartbeats 1000000 in
theorem ref_replace_full {gs off : Nat} {ca : Option Addr} {cap ccap : Nat} {zs cs : List Nat} (i : Nat) {w : World} (hb : BytesAt w (some ⟨gs, off, none⟩) zs) (hg : Good zs) (hc : BytesAt w ca cs)
    (hin : i < rd zs 14 2) (hgt : rd zs (28 + 4 * i) 2 < cs.length) (hfree : 512 + rd zs (28 + 4 * i) 2 < 26 + 4 * rd zs 14 2 + sizes zs (rd zs 14 2) + cs.length) :
    Calls Try.prog 14 #[.slice (some ⟨gs, off, none⟩) 512 cap, .int .i64 (i : Int), .slice ca cs.length ccap] w fun e w' => e = .returned (.tuple #[.slice none 0 0, .bool false]) ∧ Below w.heap.size w w' := by
  have hl := hg.1
  have h2 := hg.2.2.1
  have h5 := hg.2.2.2.1
  have h6 := good_cell hg i hin
  have h7 := good_low hg i hin
  have hf1 := (good_fitting hg).1
  have HSLT := Lib.hid (slot_at (cap := cap) i hb hl (by omega) rfl)
  have HCP := Lib.hid (ref_copy (cap := cap) hb hl)
  have HFR : Hid (∀ V, Below w.heap.size w V → Calls Try.prog 34 #[.slice (some ⟨gs, off, none⟩) 512 cap] V fun e w' => e = .returned (.int .i64 ((486 : Int) - 4 * (rd zs 14 2 : Int) - (sizes zs (rd zs 14 2) : Int))) ∧ V = w') := Lib.hid (fun V hV => ref_free (cap := cap) (bytes_below hb hV) hl (by omega))
  have HZ := Lib.hid hb.1
  have HL := Lib.hid hl
  have HG := Lib.hid hg
  have HCS := Lib.hid hc
  have HIN := Lib.hid hin
  have hmx := hc.2.1
  unfold maxLen at hmx
  obtain ⟨n, hn⟩ : ∃ n, n = rd zs 14 2 := ⟨_, rfl⟩
  obtain ⟨S, hS⟩ : ∃ S, S = sizes zs n := ⟨_, rfl⟩
  obtain ⟨x, hx⟩ : ∃ x, x = rd zs (26 + 4 * i) 2 := ⟨_, rfl⟩
  obtain ⟨y, hy⟩ : ∃ y, y = rd zs (28 + 4 * i) 2 := ⟨_, rfl⟩
  obtain ⟨m, hm⟩ : ∃ m, m = cs.length := ⟨_, rfl⟩
  have HM := Lib.hid hm
  rw [← hn] at HFR hf1 hfree h2 hin
  rw [← hS] at HFR hf1 hfree
  rw [← hx] at HSLT h6 h7
  rw [← hy] at HSLT hgt hfree h6
  rw [← hm] at hgt hfree hmx ⊢
  obtain ⟨f, hf⟩ : ∃ f : Nat, (486 : Int) - 4 * (n : Int) - (S : Int) = (f : Int) := ⟨486 - 4 * n - S, by omega⟩
  rw [hf] at HFR
  have hfm : f + y < m := by omega
  have hy5 : y ≤ 512 := by omega
  have hi5 : i ≤ 121 := by omega
  clear hb hl hg hc hx hy hm h2 h5 h7 hin hf1 hfree hf hn hS h6
  go_enter Try.func14, Try.ntmps14
  go_wp2_with fail
  refine HSLT.out.mono ?_
  rintro e w' ⟨rfl, rfl⟩
  go_wp2_with fail
  refine HCP.out.mono ?_
  rintro e w1 ⟨g, c, rfl, hh1, hs1, hc1, hc1', hb1⟩
  have HB1 := Lib.hid hb1
  clear hh1 hb1 hs1 hc1'
  go_wp2_with fail
  refine (HFR.out w1 HB1.out).mono ?_
  rintro e w' ⟨rfl, rfl⟩
  go_wp2
  go_ret2
  exact ⟨rfl, HB1.out⟩
set_option maxHeartbeats 4000000 in
set_option maxRecDepth 100000 in
theorem ref_replace_grow {gs off : Nat} {ca : Option Addr} {cap ccap : Nat} {zs cs : List Nat} (i : Nat) {w : World} (hb : BytesAt w (some ⟨gs, off, none⟩) zs) (hg : Good zs) (hc : BytesAt w ca cs)
    (hin : i < rd zs 14 2) (hgt : rd zs (28 + 4 * i) 2 < cs.length) (hfree : 26 + 4 * rd zs 14 2 + sizes zs (rd zs 14 2) + cs.length ≤ 512 + rd zs (28 + 4 * i) 2) :
    Calls Try.prog 14 #[.slice (some ⟨gs, off, none⟩) 512 cap, .int .i64 (i : Int), .slice ca cs.length ccap] w (InsOut w (repOf zs i cs)) := by
  have hl := hg.1
  have h2 := hg.2.2.1
  have h5 := hg.2.2.2.1
  have h6 := good_cell hg i hin
  have h7 := good_low hg i hin
  have hf1 := (good_fitting hg).1
  have HSLT := Lib.hid (slot_at (cap := cap) i hb hl (by omega) rfl)
  have HCP := Lib.hid (ref_copy (cap := cap) hb hl)
  have HFR : Hid (∀ V, Below w.heap.size w V → Calls Try.prog 34 #[.slice (some ⟨gs, off, none⟩) 512 cap] V fun e w' => e = .returned (.int .i64 ((486 : Int) - 4 * (rd zs 14 2 : Int) - (sizes zs (rd zs 14 2) : Int))) ∧ V = w') := Lib.hid (fun V hV => ref_free (cap := cap) (bytes_below hb hV) hl (by omega))
  have HZ := Lib.hid hb.1
  have HL := Lib.hid hl
  have HG := Lib.hid hg
  have HCS := Lib.hid hc
  have HIN := Lib.hid hin
  have hzs := repZ_sizes hb.1 hg hin
  have HR := Lib.hid (repZ_comp hb.1 hg hin)
  have HI1 : Hid (26 + 4 * rd zs 14 2 + cs.length ≤ rd zs 16 2 → refPush (repZ zs i) i (rd zs 16 2 - cs.length) cs = repOf zs i cs) := Lib.hid (fun h => repGrow_room hb.1 hg hc.1 hin hgt h)
  have HI2 : Hid (¬ 26 + 4 * rd zs 14 2 + cs.length ≤ rd zs 16 2 → refPush (refComp (repZ zs i)) i (512 - sizes (repZ zs i) (rd zs 14 2) - cs.length) cs = repOf zs i cs) := Lib.hid (fun h => repGrow_anew hb.1 hg hc.1 hin hgt h (by omega))
  have HZC := Lib.hid (repZ_count hl (show 30 + 4 * i ≤ 512 by omega))
  have HZW := Lib.hid (repZ_low hl (show 30 + 4 * i ≤ 512 by omega))
  have HQC := Lib.hid (relaid_count HR.out)
  have HQW := Lib.hid (relaid_low HR.out)
  rw [HZC.out] at HQC HQW
  have HZB := Lib.hid (repZ_bytes hb.1 i)
  have HZL1 := Lib.hid (repZ_length hl i)
  have HZF := Lib.hid (repZ_fitting hb.1 hg hin)
  have HZE : Hid (lay zs (28 + 4 * i) 0 2 = repZ zs i) := Lib.hid (by rw [repZ])
  obtain ⟨n, hn⟩ : ∃ n, n = rd zs 14 2 := ⟨_, rfl⟩
  obtain ⟨lo, hlo⟩ : ∃ lo, lo = rd zs 16 2 := ⟨_, rfl⟩
  obtain ⟨S, hS⟩ : ∃ S, S = sizes zs n := ⟨_, rfl⟩
  obtain ⟨T, hT⟩ : ∃ T, T = sizes (repZ zs i) n := ⟨_, rfl⟩
  obtain ⟨x, hx⟩ : ∃ x, x = rd zs (26 + 4 * i) 2 := ⟨_, rfl⟩
  obtain ⟨y, hy⟩ : ∃ y, y = rd zs (28 + 4 * i) 2 := ⟨_, rfl⟩
  obtain ⟨m, hm⟩ : ∃ m, m = cs.length := ⟨_, rfl⟩
  have HM := Lib.hid hm
  rw [← hn] at HFR hf1 hfree h2 hin hzs HI1 HI2 HZC HQC HQW
  rw [← hlo] at h2 h5 HI1 HI2 h7 HZW
  rw [← hS] at HFR hf1 hfree hzs
  rw [← hT] at hzs HI2 HQW
  rw [← hx] at HSLT h6 h7
  rw [← hy] at HSLT hgt hfree h6 hzs
  rw [← hm] at hgt hfree HI1 HI2 ⊢
  obtain ⟨f, hf⟩ : ∃ f : Nat, (486 : Int) - 4 * (n : Int) - (S : Int) = (f : Int) := ⟨486 - 4 * n - S, by omega⟩
  rw [hf] at HFR
  have hfm : m ≤ f + y := by omega
  have hy5 : y ≤ 512 := by omega
  have hm5 : m ≤ 512 := by omega
  have hi5 : i ≤ 121 := by omega
  have hn5 : n ≤ 121 := by omega
  clear hb hl hg hc hx hy hm h7 hf hn hS hlo hT
  go_enter Try.func14, Try.ntmps14
  go_wp2_with fail
  refine HSLT.out.mono ?_
  rintro e w' ⟨rfl, rfl⟩
  go_wp2_with fail
  refine HCP.out.mono ?_
  rintro e w1 ⟨g, c, rfl, hh1, hs1, hc1, hc1', hb1⟩
  have HH1 := Lib.hid hh1
  have HB1 := Lib.hid hb1
  have HS1 := Lib.hid hs1
  have HC1 := Lib.hid hc1'
  have HC0 := Lib.hid hc1
  clear hh1 hb1 hs1 hc1' hc1
  go_wp2_with fail
  refine (HFR.out w1 HB1.out).mono ?_
  rintro e w' ⟨rfl, rfl⟩
  go_wp2_with fail
  refine (put_at (28 + 4 * i) 0 2 (by decide) HL.out (by omega) HH1.out (by omega) rfl rfl).mono ?_
  rintro e w2 ⟨rfl, hh2, ht2⟩
  rw [HZE.out] at hh2
  have HH2 := Lib.hid hh2
  have HB2 : Hid (Below w.heap.size w w2) := Lib.hid (below_turned HB1.out ht2 HS1.out HB1.out.size)
  clear hh2 ht2
  have HLW : Hid (Calls Try.prog 22 #[.slice (some ⟨g, 0, none⟩) 512 c] w2 fun e w' => e = .returned (.int .i64 (lo : Int)) ∧ w2 = w') := Lib.hid (by
    have h := ref_low (cap := c) (has_bytes HH2.out HZB.out (by rw [HZL1.out]; unfold maxLen; decide)) HZL1.out
    rw [HZW.out] at h
    exact h)
  have HCT : Hid (Calls Try.prog 12 #[.slice (some ⟨g, 0, none⟩) 512 c] w2 fun e w' => e = .returned (.int .i64 (n : Int)) ∧ w2 = w') := Lib.hid (by
    have h := ref_count (cap := c) (has_bytes HH2.out HZB.out (by rw [HZL1.out]; unfold maxLen; decide)) HZL1.out
    rw [HZC.out] at h
    exact h)
  go_wp2_with fail
  refine HLW.out.mono ?_
  rintro e w' ⟨rfl, rfl⟩
  go_wp2_with fail
  refine HCT.out.mono ?_
  rintro e w' ⟨rfl, rfl⟩
  by_cases hroom : 26 + 4 * n + m ≤ lo
  · have hd1 : decide ((lo : Int) - 26 - 4 * (n : Int) < (m : Int)) = false := decide_eq_false (by omega)
    go_wp2_with fail
    have HHX := HH2
    have HBX := HB2
    have HSX := HS1
    obtain ⟨X, hX⟩ : ∃ X, X = repZ zs i := ⟨_, rfl⟩
    obtain ⟨lo1, hlo1⟩ : ∃ lo1, lo1 = lo := ⟨_, rfl⟩
    have HXL : Hid (X.length = 512) := Lib.hid (by rw [hX]; exact HZL1.out)
    have HXB : Hid (∀ d ∈ X, d < 256) := Lib.hid (by rw [hX]; exact HZB.out)
    have HXW : Hid (rd X 16 2 = lo1) := Lib.hid (by rw [hX, hlo1]; exact HZW.out)
    have HEN : Hid (refPush X i (lo1 - m) cs = repOf zs i cs) := Lib.hid (by rw [hX, hlo1]; exact HI1.out hroom)
    rw [← hX] at HHX
    have hr1 : 26 + 4 * n + m ≤ lo1 := by omega
    have hr2 : lo1 ≤ 512 := by omega
    clear hX hlo1 h2 h5 hd1 hzs hfree hf1 h6
    have HLW2 : Hid (Calls Try.prog 22 #[.slice (some ⟨g, 0, none⟩) 512 c] w2 fun e w' => e = .returned (.int .i64 (lo1 : Int)) ∧ w2 = w') := Lib.hid (by
      have h := ref_low (cap := c) (has_bytes HHX.out HXB.out (by rw [HXL.out]; unfold maxLen; decide)) HXL.out
      rw [HXW.out] at h
      exact h)
    obtain ⟨lo2, hlo2⟩ : ∃ lo2, lo2 = lo1 - m := ⟨_, rfl⟩
    have hsub : (lo1 : Int) - (m : Int) = (lo2 : Int) := by omega
    have hlo25 : lo2 + m ≤ 512 := by omega
    have hlo30 : 26 + 4 * n ≤ lo2 := by omega
    rw [← hlo2] at HEN
    clear hlo2 hroom hr2
    refine HLW2.out.mono ?_
    rintro e w' ⟨rfl, rfl⟩
    go_wp2_with fail
    refine (put_at 16 lo2 2 (by decide) HXL.out (by decide) HHX.out rfl (by omega) rfl).mono ?_
    rintro e w5 ⟨rfl, hh5, ht5⟩
    have HH5 := Lib.hid hh5
    have HT5 := Lib.hid ht5
    have HL5 : Hid ((lay X 16 lo2 2).length = 512) := Lib.hid (by rw [lay_length]; exact HXL.out)
    clear hh5 ht5
    go_wp2_with fail
    refine (put_at (26 + 4 * i) lo2 2 (by decide) HL5.out (by omega) HH5.out (by omega) rfl rfl).mono ?_
    rintro e w6 ⟨rfl, hh6, ht6⟩
    have HH6 := Lib.hid hh6
    have HT6 := Lib.hid (turned_trans HT5.out ht6)
    have HL6 : Hid ((lay (lay X 16 lo2 2) (26 + 4 * i) lo2 2).length = 512) := Lib.hid (by rw [lay_length]; exact HL5.out)
    clear hh6 ht6
    go_wp2_with fail
    refine (put_at (28 + 4 * i) m 2 (by decide) HL6.out (by omega) HH6.out (by omega) rfl rfl).mono ?_
    rintro e w7 ⟨rfl, hh7, ht7⟩
    have HHW := Lib.hid hh7
    have HT7 := Lib.hid (turned_trans HT6.out ht7)
    have HBW : Hid (Below w.heap.size w w7) := Lib.hid (below_turned HBX.out HT7.out HSX.out HBX.out.size)
    have HZL : Hid ((lay (lay (lay X 16 lo2 2) (26 + 4 * i) lo2 2) (28 + 4 * i) m 2).length = 512) := Lib.hid (by rw [lay_length]; exact HL6.out)
    obtain ⟨Z, hZ⟩ : ∃ Z, Z = lay (lay (lay X 16 lo2 2) (26 + 4 * i) lo2 2) (28 + 4 * i) m 2 := ⟨_, rfl⟩
    rw [← hZ] at HHW HZL
    have HEND : Hid (splice Z lo2 cs = repOf zs i cs) := Lib.hid (by rw [← HEN.out, refPush, hZ, HM.out])
    clear hh7 ht7 hZ
    have HL8 : Hid ((Z).length = 512) := HZL
    have HB8 : Hid (Below w.heap.size w w7) := HBW
    have HY0 : Hid (Has w7 g (splice Z lo2 (cs.take 0))) := Lib.hid (by rw [List.take_zero, splice_nil]; exact HHW.out)
    have HYL : Hid (∀ t, t ≤ m → (splice Z lo2 (cs.take t)).length = 512) := Lib.hid (fun t ht => splice_length' HZL.out (by rw [List.length_take, ← HM.out]; omega))
    have HYS : Hid (∀ t, (ht : t < cs.length) → (splice Z lo2 (cs.take t)).set (lo2 + t) cs[t] = splice Z lo2 (cs.take (t + 1))) := Lib.hid (fun t ht => splice_step (by rw [HZL.out, ← HM.out]; omega) ht)
    go_wp2
    go_loopw [11] (fun tt wr => ∃ t : Nat, t ≤ m ∧ tt = .int .i64 t ∧ Hid (Has wr g (splice Z lo2 (cs.take t))) ∧ Hid (Turned g w7 wr)) (fun tt _ => (m - (intOf tt)).toNat)
    case atStart => exact ⟨0, Nat.zero_le _, rfl, HY0, Lib.hid (turned_refl _ _)⟩
    case round =>
      obtain ⟨t, ht, rfl, HHt, HTt⟩ := hrel
      by_cases htm : t < m
      · have htc : t < cs.length := by rw [← HM.out]; exact htm
        obtain ⟨bc, oc, rfl, hcc⟩ := HCS.out.2.2 t htc
        have hne : bc ≠ g := by
          have h1 := World.block_lt_of_cell? w _ hcc
          have h1' : bc < w.heap.size := h1
          have h2 := HSX.out
          omega
        have csrc : wr.cell? ⟨bc, oc + t, none⟩ = some (.int .u8 (cs[t] : Int)) := by
          have hlt := World.block_lt_of_cell? w _ hcc
          have h8 := (HB8.out.cell (p := ⟨bc, oc + t, none⟩) hlt).trans hcc
          rw [World.cell?_of_block (HTt.out.block bc (World.block_lt_of_cell? w7 _ h8) (fun e => hne (by cases e; rfl)))]
          exact h8
        obtain ⟨c9, hold⟩ : ∃ c9 : Nat, wr.cell? ⟨g, lo2 + t, none⟩ = some (.int .u8 (c9 : Int)) := ⟨_, has_get HHt.out (j := lo2 + t) (by rw [HYL.out t ht]; omega)⟩
        have hfz := has_frozen HHt.out (lo2 + t)
        have HNX : Hid (Has (wr.setCell ⟨g, lo2 + t, none⟩ (.int .u8 (cs[t] : Int))) g (splice Z lo2 (cs.take (t + 1)))) := Lib.hid (by
          rw [← HYS.out t htc]; exact has_set HHt.out _ _ (by rw [HYL.out t ht]; omega))
        obtain ⟨d, hd⟩ : ∃ d, d = cs[t] := ⟨_, rfl⟩
        rw [← hd] at csrc HNX
        clear hd hcc
        go_wp2
        go_roundw
        case rel => exact ⟨t + 1, by omega, by go_num, HNX, Lib.hid (turned_set HTt.out _ _)⟩
        case measure => simp [intOf]; omega
      · obtain rfl : t = m := by omega
        have HE : Hid (InsOut w (repOf zs i cs) (.returned (.tuple #[.slice (some ⟨g, 0, none⟩) 512 c, .bool true])) wr) := Lib.hid ⟨_, _, rfl, by rw [← HEND.out]; have h := HHt.out; rw [List.take_of_length_le (by rw [← HM.out]; exact Nat.le_refl _)] at h; exact h, HSX.out, below_turned HB8.out HTt.out HSX.out HB8.out.size⟩
        go_wp2
        go_ret2
        exact HE.out
  · have hd1 : decide ((lo : Int) - 26 - 4 * (n : Int) < (m : Int)) = true := decide_eq_true (by omega)
    go_wp2_with fail
    refine (ref_compact (cap := c) (has_bytes HH2.out HZB.out (by rw [HZL1.out]; unfold maxLen; decide)) HZL1.out HC0.out HC1.out HZF.out).mono ?_
    rintro e w3 ⟨g3, c3, rfl, hh3, hs3, hc3, hc3', hb3⟩
    go_wp2_with fail
    have HHX := Lib.hid hh3
    have HBX : Hid (Below w.heap.size w w3) := Lib.hid (HB2.out.trans (hb3.mono HB2.out.size))
    have HSX : Hid (w.heap.size ≤ g3) := Lib.hid (Nat.le_trans HB2.out.size hs3)
    obtain ⟨X, hX⟩ : ∃ X, X = refComp (repZ zs i) := ⟨_, rfl⟩
    obtain ⟨lo1, hlo1⟩ : ∃ lo1, lo1 = 512 - T := ⟨_, rfl⟩
    have HXL : Hid (X.length = 512) := Lib.hid (by rw [hX]; exact HR.out.len)
    have HXB : Hid (∀ d ∈ X, d < 256) := Lib.hid (by rw [hX]; exact HR.out.byte)
    have HXW : Hid (rd X 16 2 = lo1) := Lib.hid (by rw [hX, hlo1]; exact HQW.out)
    have HEN : Hid (refPush X i (lo1 - m) cs = repOf zs i cs) := Lib.hid (by rw [hX, hlo1]; exact HI2.out hroom)
    rw [← hX] at HHX
    have hr1 : 26 + 4 * n + m ≤ lo1 := by omega
    have hr2 : lo1 ≤ 512 := by omega
    clear hX hlo1 h2 h5 hd1 hzs hfree hf1 h6 hh3 hs3 hb3 hc3'
    have HLW2 : Hid (Calls Try.prog 22 #[.slice (some ⟨g3, 0, none⟩) 512 c3] w3 fun e w' => e = .returned (.int .i64 (lo1 : Int)) ∧ w3 = w') := Lib.hid (by
      have h := ref_low (cap := c3) (has_bytes HHX.out HXB.out (by rw [HXL.out]; unfold maxLen; decide)) HXL.out
      rw [HXW.out] at h
      exact h)
    obtain ⟨lo2, hlo2⟩ : ∃ lo2, lo2 = lo1 - m := ⟨_, rfl⟩
    have hsub : (lo1 : Int) - (m : Int) = (lo2 : Int) := by omega
    have hlo25 : lo2 + m ≤ 512 := by omega
    have hlo30 : 26 + 4 * n ≤ lo2 := by omega
    rw [← hlo2] at HEN
    clear hlo2 hroom hr2
    refine HLW2.out.mono ?_
    rintro e w' ⟨rfl, rfl⟩
    go_wp2_with fail
    refine (put_at 16 lo2 2 (by decide) HXL.out (by decide) HHX.out rfl (by omega) rfl).mono ?_
    rintro e w5 ⟨rfl, hh5, ht5⟩
    have HH5 := Lib.hid hh5
    have HT5 := Lib.hid ht5
    have HL5 : Hid ((lay X 16 lo2 2).length = 512) := Lib.hid (by rw [lay_length]; exact HXL.out)
    clear hh5 ht5
    go_wp2_with fail
    refine (put_at (26 + 4 * i) lo2 2 (by decide) HL5.out (by omega) HH5.out (by omega) rfl rfl).mono ?_
    rintro e w6 ⟨rfl, hh6, ht6⟩
    have HH6 := Lib.hid hh6
    have HT6 := Lib.hid (turned_trans HT5.out ht6)
    have HL6 : Hid ((lay (lay X 16 lo2 2) (26 + 4 * i) lo2 2).length = 512) := Lib.hid (by rw [lay_length]; exact HL5.out)
    clear hh6 ht6
    go_wp2_with fail
    refine (put_at (28 + 4 * i) m 2 (by decide) HL6.out (by omega) HH6.out (by omega) rfl rfl).mono ?_
    rintro e w7 ⟨rfl, hh7, ht7⟩
    have HHW := Lib.hid hh7
    have HT7 := Lib.hid (turned_trans HT6.out ht7)
    have HBW : Hid (Below w.heap.size w w7) := Lib.hid (below_turned HBX.out HT7.out HSX.out HBX.out.size)
    have HZL : Hid ((lay (lay (lay X 16 lo2 2) (26 + 4 * i) lo2 2) (28 + 4 * i) m 2).length = 512) := Lib.hid (by rw [lay_length]; exact HL6.out)
    obtain ⟨Z, hZ⟩ : ∃ Z, Z = lay (lay (lay X 16 lo2 2) (26 + 4 * i) lo2 2) (28 + 4 * i) m 2 := ⟨_, rfl⟩
    rw [← hZ] at HHW HZL
    have HEND : Hid (splice Z lo2 cs = repOf zs i cs) := Lib.hid (by rw [← HEN.out, refPush, hZ, HM.out])
    clear hh7 ht7 hZ
    have HL8 : Hid ((Z).length = 512) := HZL
    have HB8 : Hid (Below w.heap.size w w7) := HBW
    have HY0 : Hid (Has w7 g3 (splice Z lo2 (cs.take 0))) := Lib.hid (by rw [List.take_zero, splice_nil]; exact HHW.out)
    have HYL : Hid (∀ t, t ≤ m → (splice Z lo2 (cs.take t)).length = 512) := Lib.hid (fun t ht => splice_length' HZL.out (by rw [List.length_take, ← HM.out]; omega))
    have HYS : Hid (∀ t, (ht : t < cs.length) → (splice Z lo2 (cs.take t)).set (lo2 + t) cs[t] = splice Z lo2 (cs.take (t + 1))) := Lib.hid (fun t ht => splice_step (by rw [HZL.out, ← HM.out]; omega) ht)
    go_wp2
    go_loopw [11] (fun tt wr => ∃ t : Nat, t ≤ m ∧ tt = .int .i64 t ∧ Hid (Has wr g3 (splice Z lo2 (cs.take t))) ∧ Hid (Turned g3 w7 wr)) (fun tt _ => (m - (intOf tt)).toNat)
    case atStart => exact ⟨0, Nat.zero_le _, rfl, HY0, Lib.hid (turned_refl _ _)⟩
    case round =>
      obtain ⟨t, ht, rfl, HHt, HTt⟩ := hrel
      by_cases htm : t < m
      · have htc : t < cs.length := by rw [← HM.out]; exact htm
        obtain ⟨bc, oc, rfl, hcc⟩ := HCS.out.2.2 t htc
        have hne : bc ≠ g3 := by
          have h1 := World.block_lt_of_cell? w _ hcc
          have h1' : bc < w.heap.size := h1
          have h2 := HSX.out
          omega
        have csrc : wr.cell? ⟨bc, oc + t, none⟩ = some (.int .u8 (cs[t] : Int)) := by
          have hlt := World.block_lt_of_cell? w _ hcc
          have h8 := (HB8.out.cell (p := ⟨bc, oc + t, none⟩) hlt).trans hcc
          rw [World.cell?_of_block (HTt.out.block bc (World.block_lt_of_cell? w7 _ h8) (fun e => hne (by cases e; rfl)))]
          exact h8
        obtain ⟨c9, hold⟩ : ∃ c9 : Nat, wr.cell? ⟨g3, lo2 + t, none⟩ = some (.int .u8 (c9 : Int)) := ⟨_, has_get HHt.out (j := lo2 + t) (by rw [HYL.out t ht]; omega)⟩
        have hfz := has_frozen HHt.out (lo2 + t)
        have HNX : Hid (Has (wr.setCell ⟨g3, lo2 + t, none⟩ (.int .u8 (cs[t] : Int))) g3 (splice Z lo2 (cs.take (t + 1)))) := Lib.hid (by
          rw [← HYS.out t htc]; exact has_set HHt.out _ _ (by rw [HYL.out t ht]; omega))
        obtain ⟨d, hd⟩ : ∃ d, d = cs[t] := ⟨_, rfl⟩
        rw [← hd] at csrc HNX
        clear hd hcc
        go_wp2
        go_roundw
        case rel => exact ⟨t + 1, by omega, by go_num, HNX, Lib.hid (turned_set HTt.out _ _)⟩
        case measure => simp [intOf]; omega
      · obtain rfl : t = m := by omega
        have HE : Hid (InsOut w (repOf zs i cs) (.returned (.tuple #[.slice (some ⟨g3, 0, none⟩) 512 c3, .bool true])) wr) := Lib.hid ⟨_, _, rfl, by rw [← HEND.out]; have h := HHt.out; rw [List.take_of_length_le (by rw [← HM.out]; exact Nat.le_refl _)] at h; exact h, HSX.out, below_turned HB8.out HTt.out HSX.out HB8.out.size⟩
        go_wp2
        go_ret2
        exact HE.out
end Go.Proofs.Ytmojfhleelhghaa
