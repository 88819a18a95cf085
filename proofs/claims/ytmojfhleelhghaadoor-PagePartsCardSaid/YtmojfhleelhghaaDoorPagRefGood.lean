/- The document's own word on whether a page is good: a contract. -/
import Derived.Test.YtmojfhleelhghaaDoorPagRefB
namespace Go.Proofs.YtmojfhleelhghaaDoor
open Go.ChangeShapes Go.WideShapes Go.ChangeAt Go.RowKit

/-- What it tells. -/
def GoodOut (w : World) (zs : List Nat) (e : Ending) (w' : World) : Prop := ∃ b, e = .returned (.bool b) ∧ (b = true ↔ Good zs) ∧ Below w.heap.size w w'
theorem good_true {w : World} {zs : List Nat} {e : Ending} {w' : World} (h : GoodOut w zs e w') (hg : Good zs) : e = .returned (.bool true) ∧ Below w.heap.size w w' := by
  obtain ⟨b, rfl, hb, hw⟩ := h
  rw [hb.2 hg]
  exact ⟨rfl, hw⟩
theorem good_false {w : World} {zs : List Nat} {e : Ending} {w' : World} (h : GoodOut w zs e w') (hg : ¬ Good zs) : e = .returned (.bool false) ∧ Below w.heap.size w w' := by
  obtain ⟨b, rfl, hb, hw⟩ := h
  cases b with
  | true => exact absurd (hb.1 rfl) hg
  | false => exact ⟨rfl, hw⟩
theorem goodOut_no {w : World} {zs : List Nat} {w' : World} (hg : ¬ Good zs) (hw : Below w.heap.size w w') : GoodOut w zs (.returned (.bool false)) w' := ⟨false, rfl, ⟨(fun h => by cases h), fun h => absurd h hg⟩, hw⟩
/-- What its loops keep. -/
def InGood (w wr : World) (B2 : Nat) (T : List Bool) : Prop := Cells wr B2 4 (bools T) ∧ Below w.heap.size w wr ∧ T.length = 512 ∧ w.heap.size ≤ B2
theorem infoB : (Tryd.prog.info? 4).map (fun i => (i.zero, i.size, i.bytes)) = some (some (.bool false), 1, 1) := by kernel_rfl
theorem made_bools : (madeCells (Value.cells (.bool false)) (512 * 1)).toList = (List.replicate 512 false).map Value.bool := by
  rw [show Value.cells (.bool false) = #[.bool false] from rfl, toList_madeCells_one, List.map_replicate]
theorem ref_good_short {a : Option Addr} {cap : Nat} {zs : List Nat} {w : World} (hl : zs.length ≠ 512) :
    Calls Tryd.prog 21 #[.slice a zs.length cap] w (GoodOut w zs) := by
  have hl1 : ((zs.length : Int) != 512) = true := by rw [bne_iff_ne]; omega
  have HE : Hid (GoodOut w zs (.returned (.bool false)) w) := Lib.hid (goodOut_no (fun h => hl h.1) (Below.refl _ _))
  clear hl
  go_enter Tryd.func21, Tryd.ntmps21
  go_wp2
  go_ret
  exact HE.out
theorem ownB_cells {w : World} {B g n : Nat} {T : List Bool} (h : w.ownsRow B 4 1 (.slice (some ⟨g, 0, none⟩) n n) n (T.map Value.bool)) : Cells w g 4 (bools T) := by
  rcases h.2 with ⟨h', _⟩ | ⟨g', cap', cur, h', _, hg, _, _, hcs, htake⟩
  · simp at h'
  · simp only [Value.slice.injEq, Option.some.injEq, Addr.mk.injEq, and_true, true_and] at h'
    obtain ⟨rfl, rfl⟩ := h'
    rw [List.take_of_length_le (by simp; omega)] at htake
    have e : cur = bools T := by
      rw [bools, ← htake, Array.toArray_toList]
    rw [← e]
    exact hg
set_option maxHeartbeats 2000000 in
theorem ref_good_full {ad : Addr} {cap : Nat} {zs : List Nat} {w : World} (hb : BytesAt w (some ad) zs) (hl : zs.length = 512) :
    Calls Tryd.prog 21 #[.slice (some ad) 512 cap] w (GoodOut w zs) := by
  obtain ⟨i0, hi, hz0, hz1, hz2⟩ := info_parts infoB
  have hbt : i0.bytes * 512 ≤ 281474976710656 := by rw [hz2]; decide
  have HBT := Lib.hid hbt
  have HB0 := Lib.hid hb
  have HL := Lib.hid hl
  have b6 := rd2 hb.1 14 (by omega)
  have b7 := rd2 hb.1 16 (by omega)
  have HC := Lib.hid (ref_count (cap := cap) hb hl)
  have HLW := Lib.hid (ref_low (cap := cap) hb hl)
  obtain ⟨b, off, e, hcell⟩ := hb.2.2 13 (by omega)
  cases e
  obtain ⟨z, hz⟩ : ∃ z, z = zs.getD 13 0 := ⟨_, rfl⟩
  have e13 : zs[13]'(by omega) = z := by rw [hz, List.getD_eq_getElem?_getD, List.getElem?_eq_getElem (by omega)]; rfl
  rw [e13] at hcell
  obtain ⟨n, hn⟩ : ∃ n, n = rd zs 14 2 := ⟨_, rfl⟩
  obtain ⟨low, hlow⟩ : ∃ low, low = rd zs 16 2 := ⟨_, rfl⟩
  rw [← hn] at HC b6
  rw [← hlow] at HLW b7
  have HZ := Lib.hid hz; have HN := Lib.hid hn; have HLOW := Lib.hid hlow
  clear hbt hb hl hz e13 hn hlow
  by_cases h5 : z = 0
  · by_cases h6 : 26 + 4 * n ≤ low
    · by_cases h7 : low ≤ 512
      · have hd1 : ((z : Int) != 0) = false := by rw [h5]; rfl
        have hd2 : decide ((low : Int) < 26 + 4 * (n : Int)) = false := decide_eq_false (by omega)
        have hd3 : decide ((512 : Int) < (low : Int)) = false := decide_eq_false (by omega)
        have HH : Hid (z = 0 ∧ 26 + 4 * n ≤ low ∧ low ≤ 512) := Lib.hid ⟨h5, h6, h7⟩
        clear h5
        go_enter Tryd.func21, Tryd.ntmps21
        go_wp2_with (first | (go_at_call 27; refine HC.out.mono ?_; rintro e w' ⟨rfl, rfl⟩) | (go_at_call 46; refine HLW.out.mono ?_; rintro e w' ⟨rfl, rfl⟩) | (at_make; refine wpList_make_full _ rfl _ _ 68 rfl _ 4 i0 (.bool false) 1 Tryd.underlying68 hi hz0 hz1 .i64 .i64 512 512 512 rfl rfl rfl rfl HBT.out (by unfold maxLen; decide) (Nat.le_refl _) ?_; intro w2 ho2 hg2; rw [made_bools] at ho2; have HI0 : Hid (InGood w w2 w.heap.size T512) := Lib.hid ⟨ownB_cells ho2, (Below.refl w.heap.size w).grown hg2 (Nat.le_refl _) (fun k hk => by cases hk), List.length_replicate, Nat.le_refl _⟩; clear ho2 hg2))
        obtain ⟨B2, hB2⟩ : ∃ B2, B2 = w.heap.size := ⟨_, rfl⟩
        rw [← hB2]
        have HI1 : Hid (InGood w w2 B2 T512) := Lib.hid (by rw [hB2]; exact HI0.out)
        clear hB2 HI0 hd1 hd2 hd3 hcell
        go_loopw [6, 7, 8, 9] (fun i _ _ _ wr => ∃ (k : Nat) (T : List Bool), k ≤ n ∧ i = .int .i64 k ∧ Hid (InGood w wr B2 T) ∧ Hid (marks zs low k = some T)) (fun i _ _ _ _ => (n - (intOf i)).toNat)
        case atStart => exact ⟨0, T512, Nat.zero_le _, rfl, HI1, Lib.hid rfl⟩
        case round =>
          obtain ⟨k, T, hk, rfl, HIN, HMK⟩ := hrel
          by_cases hlt : k < n
          · have hby : BytesAt wr (some ⟨b, off, none⟩) zs := bytes_below HB0.out HIN.out.2.1
            have HSL := Lib.hid (ref_slot (cap := cap) k hby HL.out (by omega))
            have bx := rd2 hby.1 (26 + 4 * k) (by have := HL.out; omega)
            have by' := rd2 hby.1 (28 + 4 * k) (by have := HL.out; omega)
            have HSTEP : Hid (marks zs low (k + 1) = if rd zs (26 + 4 * k) 2 < low ∨ 512 < rd zs (26 + 4 * k) 2 + rd zs (28 + 4 * k) 2 then none else markk T (rd zs (26 + 4 * k) 2) (rd zs (28 + 4 * k) 2)) := Lib.hid (by rw [marks, HMK.out])
            obtain ⟨x, hx⟩ : ∃ x, x = rd zs (26 + 4 * k) 2 := ⟨_, rfl⟩
            obtain ⟨y, hy⟩ : ∃ y, y = rd zs (28 + 4 * k) 2 := ⟨_, rfl⟩
            rw [← hx, ← hy] at HSL HSTEP
            rw [← hx] at bx
            rw [← hy] at by'
            clear hx hy hby
            have HBAD : Hid (marks zs low (k + 1) = none → ¬ Good zs) := Lib.hid (fun h hg => by
              have h1 := marks_none h n (by omega)
              have h2 := hg.2.2.2.2
              rw [← HN.out, ← HLOW.out, h1] at h2
              cases h2)
            by_cases hx1 : x < low
            · have HE : Hid (GoodOut w zs (.returned (.bool false)) wr) := Lib.hid (goodOut_no (HBAD.out (by rw [HSTEP.out, if_pos (.inl hx1)])) HIN.out.2.1)
              go_wp2_with (go_at_call 47; refine HSL.out.mono ?_; rintro e w' ⟨rfl, rfl⟩)
              go_ret
              exact HE.out
            · by_cases hx2 : 512 < x + y
              · have HE : Hid (GoodOut w zs (.returned (.bool false)) wr) := Lib.hid (goodOut_no (HBAD.out (by rw [HSTEP.out, if_pos (.inr hx2)])) HIN.out.2.1)
                go_wp2_with (go_at_call 47; refine HSL.out.mono ?_; rintro e w' ⟨rfl, rfl⟩)
                go_ret
                exact HE.out
              · have HST2 : Hid (marks zs low (k + 1) = markk T x y) := Lib.hid (by rw [HSTEP.out, if_neg (by omega)])
                go_wp2_with (go_at_call 47; refine HSL.out.mono ?_; rintro e w' ⟨rfl, rfl⟩)
                obtain ⟨wo, hwo⟩ : ∃ wo : World, wo = wr := ⟨_, rfl⟩
                rw [← hwo] at HIN
                have HINo : Hid (InGood w wr B2 T) := by rw [← hwo]; exact HIN
                clear hwo HIN
                go_loopw [9] (fun i wi => ∃ (j : Nat) (U : List Bool), j ≤ y ∧ i = .int .i64 ((x : Int) + (j : Int)) ∧ Hid (InGood w wi B2 U) ∧ Hid (markk T x j = some U)) (fun i _ => ((x : Int) + (y : Int) - (intOf i)).toNat)
                case atStart => exact ⟨0, T, Nat.zero_le _, by simp, HINo, Lib.hid rfl⟩
                case round =>
                  obtain ⟨j, U, hj, rfl, HIN2, HMU⟩ := hrel
                  by_cases hjy : j < y
                  · have hjx : x + j < 512 := by omega
                    have hcell := cell_of_row _ B2 (x + j) _ _ _ HIN2.out.1
                    rw [bools_get U (x + j) (by rw [HIN2.out.2.2.1]; exact hjx)] at hcell
                    have hfz := frozen_of_row _ B2 (x + j) _ _ HIN2.out.1
                    have HMS : Hid (markk T x (j + 1) = if U.getD (x + j) false then none else some (U.set (x + j) true)) := Lib.hid (by rw [markk, HMU.out])
                    cases hu : U.getD (x + j) false with
                    | true =>
                      rw [hu] at hcell HMS
                      have HE : Hid (GoodOut w zs (.returned (.bool false)) wr) := Lib.hid (goodOut_no (HBAD.out (by rw [HST2.out]; exact markk_none (j := j + 1) (by rw [HMS.out]; rfl) y (by omega))) HIN2.out.2.1)
                      clear hu
                      go_wp2
                      go_ret
                      exact HE.out
                    | false =>
                      rw [hu] at hcell HMS
                      have HNX : Hid (markk T x (j + 1) = some (U.set (x + j) true)) := Lib.hid (by rw [HMS.out]; rfl)
                      have HNI : Hid (InGood w (wr.setCell ⟨B2, x + j, none⟩ (.bool true)) B2 (U.set (x + j) true)) := Lib.hid ⟨by rw [bools_set]; exact cells_setCell HIN2.out.1, HIN2.out.2.1.setCell HIN2.out.2.2.2 _, by rw [List.length_set]; exact HIN2.out.2.2.1, HIN2.out.2.2.2⟩
                      clear hu HMS
                      go_wp2
                      go_roundw
                      case rel => exact ⟨j + 1, U.set (x + j) true, by omega, by go_num, HNI, HNX⟩
                      case measure => simp [intOf]; omega
                  · obtain rfl : j = y := by omega
                    have HNX : Hid (marks zs low (k + 1) = some U) := Lib.hid (by rw [HST2.out, HMU.out])
                    go_wp2
                    go_roundw
                    case rel => exact ⟨k + 1, U, by omega, by go_num, HIN2, HNX⟩
                    case measure => simp [intOf]; omega
          · obtain rfl : k = n := by omega
            have HE : Hid (GoodOut w zs (.returned (.bool true)) wr) := Lib.hid ⟨true, rfl, ⟨fun _ => ⟨HL.out, by rw [← HZ.out]; exact HH.out.1, by rw [← HN.out, ← HLOW.out]; exact HH.out.2.1, by rw [← HLOW.out]; exact HH.out.2.2, by rw [← HLOW.out, ← HN.out, HMK.out]; rfl⟩, fun _ => rfl⟩, HIN.out.2.1⟩
            go_wp2
            go_ret
            exact HE.out
      · have hd1 : ((z : Int) != 0) = false := by rw [h5]; rfl
        have hd2 : decide ((low : Int) < 26 + 4 * (n : Int)) = false := decide_eq_false (by omega)
        have hd3 : decide ((512 : Int) < (low : Int)) = true := decide_eq_true (by omega)
        have HE : Hid (GoodOut w zs (.returned (.bool false)) w) := Lib.hid (goodOut_no (fun h => h7 (by have := h.2.2.2.1; rwa [← HLOW.out] at this)) (Below.refl _ _))
        clear h5 h6 h7
        go_enter Tryd.func21, Tryd.ntmps21
        go_wp2_with (first | (go_at_call 27; refine HC.out.mono ?_; rintro e w' ⟨rfl, rfl⟩) | (go_at_call 46; refine HLW.out.mono ?_; rintro e w' ⟨rfl, rfl⟩))
        go_ret
        exact HE.out
    · have hd1 : ((z : Int) != 0) = false := by rw [h5]; rfl
      have hd2 : decide ((low : Int) < 26 + 4 * (n : Int)) = true := decide_eq_true (by omega)
      have HE : Hid (GoodOut w zs (.returned (.bool false)) w) := Lib.hid (goodOut_no (fun h => h6 (by have := h.2.2.1; rwa [← HN.out, ← HLOW.out] at this)) (Below.refl _ _))
      clear h5 h6
      go_enter Tryd.func21, Tryd.ntmps21
      go_wp2_with (first | (go_at_call 27; refine HC.out.mono ?_; rintro e w' ⟨rfl, rfl⟩) | (go_at_call 46; refine HLW.out.mono ?_; rintro e w' ⟨rfl, rfl⟩))
      go_ret
      exact HE.out
  · have hd1 : ((z : Int) != 0) = true := by rw [bne_iff_ne]; omega
    have HE : Hid (GoodOut w zs (.returned (.bool false)) w) := Lib.hid (goodOut_no (fun h => h5 (by have := h.2.1; rwa [← HZ.out] at this)) (Below.refl _ _))
    clear h5
    go_enter Tryd.func21, Tryd.ntmps21
    go_wp2
    go_ret
    exact HE.out
theorem ref_good {a : Option Addr} {cap : Nat} {zs : List Nat} {w : World} (hb : BytesAt w a zs) : Calls Tryd.prog 21 #[.slice a zs.length cap] w (GoodOut w zs) := by
  by_cases hl : zs.length = 512
  · obtain ⟨b, off, rfl, _⟩ := hb.2.2 0 (by omega)
    rw [hl]
    exact ref_good_full hb hl
  · exact ref_good_short hl
end Go.Proofs.YtmojfhleelhghaaDoor
