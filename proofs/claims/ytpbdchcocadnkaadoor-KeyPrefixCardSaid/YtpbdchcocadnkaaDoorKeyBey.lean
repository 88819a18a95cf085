/- KeyBeyond: the walk. -/
import Derived.Test.YtpbdchcocadnkaaDoorKeyBeg
import Derived.Deep.CutRange
namespace Go.Proofs.YtpbdchcocadnkaaDoor
open Go.ChangeShapes Go.WideShapes Go.ChangeAt Go.RowKit

set_option maxHeartbeats 2000000 in
set_option maxRecDepth 20000 in
theorem beyond_law {w : World} {a b : Option Addr} {l m : List Nat} {n k c d : Nat} (ha : BytesAt w a l) (hb : BytesAt w b m) (hl : l.length = n) (hm : m.length = k) (hc : n ≤ c) (hd : k ≤ d) (hs : n + k ≤ 1048576) :
    Calls Tryd.prog 4 #[.slice a n c, .slice b k d] w fun e w' => e = .returned (.bool true) ∧ Below w.heap.size w w' := by
  obtain ⟨q, hq⟩ := last_all ha.1
  have HR := Lib.hid rowyU
  have HQL := Lib.hid hq
  have HL := Lib.hid hl
  have HM := Lib.hid hm
  have HA : Hid (∀ V, Below w.heap.size w V → BytesAt V a l) := Lib.hid (fun V hV => bytes_below ha hV)
  have HBB : Hid (∀ V, Below w.heap.size w V → BytesAt V b m) := Lib.hid (fun V hV => bytes_below hb hV)
  have HAF : Hid (∀ V, Below w.heap.size w V → Calls Tryd.prog 6 #[.slice a n c] V (AftOut V l q)) := Lib.hid (fun V hV => after_any (bytes_below ha hV) hl (by omega) hc hq)
  have HBG : Hid (∀ V, Below w.heap.size w V → Calls Tryd.prog 11 #[.slice b k d, .slice a n c] V fun e w' => e = .returned (.bool (decide (l <+: m))) ∧ Below V.heap.size V w') := Lib.hid (fun V hV => begins_any (bytes_below hb hV) (bytes_below ha hV) hm hl hd)
  have hqn : q ≤ n := by rw [← hl]; exact hq.1
  generalize hQ : (fun (e : Ending) (w' : World) => e = .returned (.bool true) ∧ Below w.heap.size w w') = Q
  have HQ := Lib.hid hQ
  clear hQ ha hb hl hm hq
  go_enter Tryd.func4, Tryd.ntmps4
  go_wp2_with fail
  refine (awake_any w).mono ?_
  rintro e w0 ⟨rfl, hb0⟩
  have HB0 := Lib.hid hb0
  clear hb0
  go_wp2_with fail
  refine (HAF.out _ HB0.out).mono ?_
  rintro e w1 h1
  obtain ⟨a1, c1, rfl, hx1, hl1, hb1⟩ := aft_form (by rw [HL.out]; exact hqn) h1
  have HB1 := Lib.hid (HB0.out.trans (hb1.mono HB0.out.size))
  have HX1 := Lib.hid hx1
  have HL1 := Lib.hid hl1
  have HFR : Hid (Slc (w1.alloc (.cells #[] 5)) (some w1.heap.size) 1 (.slice (some ⟨w1.heap.size, 0, none⟩) 0 0) 0 (u8s [])) := Lib.hid (slc_fresh w1 5 1)
  have HBA : Hid (Below w1.heap.size w1 (w1.alloc (.cells #[] 5))) := Lib.hid (below_alloc w1 _)
  have HFB : Hid (∀ b, some w1.heap.size = some b → w1.heap.size ≤ b) := Lib.hid (fun b e => by cases e; exact Nat.le_refl _)
  have HUP : Hid (∀ V, Below w1.heap.size w1 V → Below w.heap.size w V) := Lib.hid (fun V hV => HB1.out.trans (hV.mono HB1.out.size))
  have HZL : Hid (∀ x ∈ l, x < 256) := Lib.hid (HA.out w (Below.refl _ _)).1
  have HZM : Hid (∀ x ∈ m, x < 256) := Lib.hid (HBB.out w (Below.refl _ _)).1
  have HMX : Hid (∀ k, k ≤ 1048576 → k ≤ maxLen) := Lib.hid (fun k h => by unfold maxLen; omega)
  clear h1 hx1 hl1 hb1
  go_upto_region 5 with (first
    | (at_builtin; refine wpList_slc HR.out rfl (.tmp 18) (.tmp 19) 22 rfl rfl rfl HO2.out.2.2.choose_spec.1 (bytes_src Tryd.underlying22 (HBB.out _ (HUP.out _ HB2.out)) HM.out) (rfl : n + k = n + k) (HMX.out _ (by omega)) (by omega) ?_; intro a3 c3 b3 w3 h1 h2 h3; obtain ⟨ho3, hb3⟩ := own_more (W := w1) HL.out (by rw [HM.out]) HZL.out HZM.out HB2.out HO2.out.2.2.choose_spec.2 h1 h2 h3; have HO3 := Lib.hid ho3; have HB3 := Lib.hid hb3; clear h1 h2 h3 ho3 hb3)
    | (at_builtin; refine wpList_slc HR.out rfl (.tmp 16) (.tmp 17) 22 rfl rfl rfl HFR.out (bytes_src Tryd.underlying22 (HA.out _ (HUP.out _ HBA.out)) HL.out) (by omega : 0 + n = n) (HMX.out _ (by omega)) (by omega) ?_; intro a2 c2 b2 w2 h1 h2 h3; obtain ⟨ho2, hb2⟩ := own_more (l := []) (W := w1) rfl (by rw [HL.out]; exact Nat.zero_add _) (fun x hx => by cases hx) HZL.out HBA.out HFB.out h1 h2 h3; rw [List.nil_append] at ho2; have HO2 := Lib.hid ho2; have HB2 := Lib.hid hb2; clear h1 h2 h3 ho2 hb2))
  have HX3 := Lib.hid (bytes_below HX1.out HB3.out)
  have HO3B := Lib.hid (own_bytes HO3.out)
  have HU3 := Lib.hid (HUP.out _ HB3.out)
  clear HFR HBA HFB HO2 HB2
  by_cases h0 : q = 0
  · subst h0
    have HAL : Hid (∀ j, j < n → l.getD j 0 = 255) := Lib.hid (fun j hj => HQL.out.2.1 j (Nat.zero_le _) (by rw [HL.out]; exact hj))
    go_wp2
    go_loopw [8] (fun i wr => ∃ j : Nat, j ≤ n ∧ i = .int .i64 (j : Int) ∧ wr = w3) (fun i _ => (n - intOf i).toNat)
    case atStart => exact ⟨0, by omega, rfl, rfl⟩
    case round =>
      obtain ⟨j, hj, rfl, rfl⟩ := hrel
      by_cases hlt : j < n
      · obtain ⟨bb, off, rfl, hc5, hz⟩ := byte_at (HA.out _ HU3.out) HL.out j hlt
        rw [HAL.out j hlt] at hc5
        go_wp2
        go_roundw
        case rel => exact ⟨j + 1, by omega, by go_num, trivial⟩
        case measure => simp [intOf]; omega
      · obtain rfl : j = n := by omega
        go_wp2
        rw [← HQ.out]
        exact ⟨rfl, HU3.out⟩
  · have hne : aftL l q = afterOf l q := by rw [aftL, if_neg h0]
    have e1 : cmpN (l ++ m) (aftL l q) = -1 := by rw [hne]; exact after_above HQL.out h0
    have e2 : cmpN m (aftL l q) = -1 → cmpN m l ≠ -1 → l <+: m := fun h1 h2 => between_begins HQL.out h0 HZM.out (by rw [← hne]; exact h1) h2
    have hc1 := compare_any (c := c3) (d := c1) HO3B.out HX3.out (by rw [List.length_append, HL.out, HM.out]) HL1.out
    have hc2 := compare_any (c := d) (d := c1) (HBB.out _ HU3.out) HX3.out HM.out HL1.out
    have hc3 := compare_any (c := d) (d := c) (HBB.out _ HU3.out) (HA.out _ HU3.out) HM.out HL.out
    rw [e1] at hc1
    have HC1 := Lib.hid hc1
    clear e1 hc1 hne
    have v2 := cmp_vals m (aftL l q)
    have v3 := cmp_vals m l
    rcases v2 with k2 | k2 | k2
    · rw [k2] at hc2
      have HC2 := Lib.hid hc2
      rcases v3 with k3 | k3 | k3
      · rw [k3] at hc3
        have HC3 := Lib.hid hc3
        clear e2 hc2 hc3 k2 k3
        go_wp2_with (first | (go_at_call 9; refine HC1.out.mono ?_; rintro e w' ⟨rfl, rfl⟩) | (go_at_call 9; refine HC2.out.mono ?_; rintro e w' ⟨rfl, rfl⟩) | (go_at_call 9; refine HC3.out.mono ?_; rintro e w' ⟨rfl, rfl⟩))
        rw [← HQ.out]
        exact ⟨rfl, HU3.out⟩
      · have HPF : Hid (l <+: m) := Lib.hid (e2 k2 (by rw [k3]; omega))
        rw [k3] at hc3
        have HC3 := Lib.hid hc3
        clear e2 hc2 hc3 k2 k3
        go_wp2_with (first | (go_at_call 9; refine HC1.out.mono ?_; rintro e w' ⟨rfl, rfl⟩) | (go_at_call 9; refine HC2.out.mono ?_; rintro e w' ⟨rfl, rfl⟩) | (go_at_call 9; refine HC3.out.mono ?_; rintro e w' ⟨rfl, rfl⟩) | (go_at_call 11; refine (HBG.out _ HU3.out).mono ?_; rw [decide_eq_true HPF.out]; rintro e w4 ⟨rfl, hb4⟩; have HB4 := Lib.hid (HU3.out.trans (hb4.mono HU3.out.size)); clear hb4))
        rw [← HQ.out]
        exact ⟨rfl, HB4.out⟩
      · have HPF : Hid (l <+: m) := Lib.hid (e2 k2 (by rw [k3]; omega))
        rw [k3] at hc3
        have HC3 := Lib.hid hc3
        clear e2 hc2 hc3 k2 k3
        go_wp2_with (first | (go_at_call 9; refine HC1.out.mono ?_; rintro e w' ⟨rfl, rfl⟩) | (go_at_call 9; refine HC2.out.mono ?_; rintro e w' ⟨rfl, rfl⟩) | (go_at_call 9; refine HC3.out.mono ?_; rintro e w' ⟨rfl, rfl⟩) | (go_at_call 11; refine (HBG.out _ HU3.out).mono ?_; rw [decide_eq_true HPF.out]; rintro e w4 ⟨rfl, hb4⟩; have HB4 := Lib.hid (HU3.out.trans (hb4.mono HU3.out.size)); clear hb4))
        rw [← HQ.out]
        exact ⟨rfl, HB4.out⟩
    all_goals
      rw [k2] at hc2
      have HC2 := Lib.hid hc2
      clear e2 hc2 hc3 k2 v3
      go_wp2_with (first | (go_at_call 9; refine HC1.out.mono ?_; rintro e w' ⟨rfl, rfl⟩) | (go_at_call 9; refine HC2.out.mono ?_; rintro e w' ⟨rfl, rfl⟩))
      rw [← HQ.out]
      exact ⟨rfl, HU3.out⟩
end Go.Proofs.YtpbdchcocadnkaaDoor
