/- Of bytes, just those that begin with some have keys between: plain laws; the walk of KeyPrefix. -/
import Derived.Test.YtpbdchcocadnkaaDoorKeyBKey
import Derived.Test.YtpbdchcocadnkaaDoorKeyBey
import Derived.BigQuiet
namespace Go.Proofs.YtpbdchcocadnkaaDoor
open Go.ChangeShapes Go.WideShapes Go.ChangeAt Go.RowKit

theorem esc_app (a b : List Nat) : esc (a ++ b) = esc a ++ esc b := by simp [esc]
theorem esc_cons (c : Nat) (a : List Nat) : esc (c :: a) = (if c = 0 then [0, 255] else [c]) ++ esc a := by simp [esc]
theorem esc_prefix : ∀ a b : List Nat, esc a <+: esc b ++ [0, 0] → a <+: b
  | [], b, _ => List.nil_prefix
  | c :: a, [], h => by
    rw [esc_cons] at h
    by_cases h0 : c = 0
    · simp [h0, esc, List.cons_prefix_cons] at h
    · simp [h0, esc, List.cons_prefix_cons] at h
  | c :: a, d :: b, h => by
    rw [esc_cons, esc_cons] at h
    have ih := esc_prefix a b
    by_cases h0 : c = 0 <;> by_cases h1 : d = 0
    · simp [h0, h1, List.cons_prefix_cons] at h
      rw [List.cons_prefix_cons]
      exact ⟨by omega, ih h⟩
    · simp [h0, h1, List.cons_prefix_cons] at h
      exact absurd h.1.symm h1
    · simp [h0, h1, List.cons_prefix_cons] at h
    · simp [h0, h1, List.cons_prefix_cons] at h
      rw [List.cons_prefix_cons]
      exact ⟨h.1, ih h.2⟩
theorem cmp_app : ∀ l z : List Nat, cmpN (l ++ z) l ≠ -1
  | [], [] => by simp [cmpN]
  | [], _ :: _ => by simp [cmpN]
  | a :: l, z => by
    have ih := cmp_app l z
    simpa [cmpN] using ih
theorem key_prefix {a b : List Nat} {q : Nat} (hq : Last ([80] ++ esc a) q) (h0 : q ≠ 0) (hb : ∀ c ∈ [80] ++ esc b ++ [0, 0], c < 256) :
    (cmpN ([80] ++ esc b ++ [0, 0]) ([80] ++ esc a) ≠ -1 ∧ cmpN ([80] ++ esc b ++ [0, 0]) (afterOf ([80] ++ esc a) q) = -1) ↔ a <+: b := by
  constructor
  · rintro ⟨h1, h2⟩
    have h := between_begins hq h0 hb h2 h1
    rw [List.append_assoc, List.prefix_append_right_inj] at h
    exact esc_prefix a b h
  · rintro ⟨c, rfl⟩
    have e : [80] ++ esc (a ++ c) ++ [0, 0] = ([80] ++ esc a) ++ (esc c ++ [0, 0]) := by rw [esc_app]; simp
    rw [e]
    exact ⟨cmp_app _ _, after_above hq h0⟩
theorem last_key {a : List Nat} {q : Nat} (hq : Last ([80] ++ esc a) q) : q ≠ 0 := by
  intro h
  have := hq.2.1 0 (by omega) (by simp)
  simp at this
set_option maxHeartbeats 2000000 in
set_option maxRecDepth 20000 in
theorem prefix_law {w : World} {a b : Option Addr} {l m : List Nat} {n k c d : Nat} (ha : BytesAt w a l) (hb : BytesAt w b m) (hl : l.length = n) (hm : m.length = k) (hd : k ≤ d) (hn : n ≤ 140737488351232) (hk : k ≤ 140737488351232) :
    Calls Tryd.prog 5 #[.slice a n c, .slice b k d] w fun e w' => e = .returned (.bool true) ∧ Below w.heap.size w w' := by
  have HOA : Hid (∀ V, Below w.heap.size w V → Calls Tryd.prog 12 #[.agg #[.int .i64 6, .int .u64 0, .slice a n c, .slice none 0 0, .slice none 0 0]] V fun e w' => Below V.heap.size V w' ∧ ((∃ k : Int, k ≠ 0 ∧ e = .returned (.tuple #[.slice none 0 0, .int .i64 k])) ∨ ∃ a n c, e = .returned (.tuple #[.slice a n c, .int .i64 0]) ∧ Own V w' a n c ([80] ++ esc l ++ [0, 0]) ∧ n ≤ 96)) := Lib.hid (fun V hV => of_bytes (bytes_below ha hV) hl hn)
  have HOB : Hid (∀ V, Below w.heap.size w V → Calls Tryd.prog 12 #[.agg #[.int .i64 6, .int .u64 0, .slice b k d, .slice none 0 0, .slice none 0 0]] V fun e w' => Below V.heap.size V w' ∧ ((∃ k : Int, k ≠ 0 ∧ e = .returned (.tuple #[.slice none 0 0, .int .i64 k])) ∨ ∃ a n c, e = .returned (.tuple #[.slice a n c, .int .i64 0]) ∧ Own V w' a n c ([80] ++ esc m ++ [0, 0]) ∧ n ≤ 96)) := Lib.hid (fun V hV => of_bytes (bytes_below hb hV) hm hk)
  have HBG : Hid (∀ V, Below w.heap.size w V → Calls Tryd.prog 11 #[.slice b k d, .slice a n c] V fun e w' => e = .returned (.bool (decide (l <+: m))) ∧ Below V.heap.size V w') := Lib.hid (fun V hV => begins_any (bytes_below hb hV) (bytes_below ha hV) hm hl hd)
  generalize hQ : (fun (e : Ending) (w' : World) => e = .returned (.bool true) ∧ Below w.heap.size w w') = Q
  have HQ := Lib.hid hQ
  clear hQ ha hb hl hm
  go_enter Tryd.func5, Tryd.ntmps5
  go_wp2_with fail
  refine (awake_any w).mono ?_
  rintro e w0 ⟨rfl, hb0⟩
  have HB0 := Lib.hid hb0
  clear hb0
  go_wp2_with fail
  refine (HOA.out _ HB0.out).mono ?_
  rintro e w1 ⟨hb1, h1⟩
  have HB1 := Lib.hid (HB0.out.trans (hb1.mono HB0.out.size))
  clear hb1
  rcases h1 with ⟨k1, hk1, rfl⟩ | ⟨a1, n1, c1, rfl, ho1, hn96⟩
  · go_wp2_with fail
    refine (HOB.out _ HB1.out).mono ?_
    rintro e w2 ⟨hb2, h2⟩
    have HB2 := Lib.hid (HB1.out.trans (hb2.mono HB1.out.size))
    clear hb2
    rcases h2 with ⟨k2, hk2, rfl⟩ | ⟨a2, n2, c2, rfl, ho2, -⟩
    · go_wp2
      rw [← HQ.out]
      exact ⟨by simp, HB2.out⟩
    · go_wp2
      rw [← HQ.out]
      exact ⟨by simp, HB2.out⟩
  have HO1 := Lib.hid ho1
  go_wp2_with fail
  refine (HOB.out _ HB1.out).mono ?_
  rintro e w2 ⟨hb2, h2⟩
  have HB2 := Lib.hid (HB1.out.trans (hb2.mono HB1.out.size))
  have HO1' := Lib.hid (own_under HO1.out hb2)
  clear hb2 ho1
  rcases h2 with ⟨k2, hk2, rfl⟩ | ⟨a2, n2, c2, rfl, ho2, -⟩
  · go_wp2
    rw [← HQ.out]
    exact ⟨by simp [hk2], HB2.out⟩
  have HO2 := Lib.hid ho2
  have hn1 : n1 = (esc l).length + 3 := by
    have := HO1.out.1
    simp at this
    omega
  obtain ⟨j, hj⟩ : ∃ j, j = (esc l).length + 1 := ⟨_, rfl⟩
  have hnj : n1 = j + 2 := by omega
  subst hnj
  have hjc : j + 2 ≤ c1 := own_cap HO1.out
  have hsl := slice_upto a1 (j + 2) c1 j (by omega)
  have hlow : BytesAt w2 a1 ([80] ++ esc l) := bytes_prefix (own_bytes HO1'.out)
  have hlj : ([80] ++ esc l).length = j := by simp; omega
  obtain ⟨q, hq⟩ := last_all hlow.1
  have h0 := last_key hq
  have hqj : q ≤ j := by rw [← hlj]; exact hq.1
  have HLOW := Lib.hid hlow
  have HLJ := Lib.hid hlj
  have HKP : Hid ((cmpN ([80] ++ esc m ++ [0, 0]) ([80] ++ esc l) ≠ -1 ∧ cmpN ([80] ++ esc m ++ [0, 0]) (afterOf ([80] ++ esc l) q) = -1) ↔ l <+: m) := Lib.hid (key_prefix hq h0 HO2.out.2.1)
  have HAF : Hid (Calls Tryd.prog 6 #[.slice a1 j c1] w2 (AftOut w2 ([80] ++ esc l) q)) := Lib.hid (after_any hlow hlj (by omega) (by omega) hq)
  clear hlow hlj hq hj hn1
  go_upto_region 10 with (go_at_call 6; refine HAF.out.mono ?_; rintro e w3 ⟨h3, hb3⟩; rw [if_neg h0] at h3; obtain ⟨a3, c3, rfl, ho3⟩ := h3; have HO3 := Lib.hid ho3; have HB3 := Lib.hid hb3; clear ho3 hb3)
  have HU3 := Lib.hid (HB2.out.trans (HB3.out.mono HB2.out.size))
  have hc1 := compare_any (c := c2) (d := c1) (bytes_below (own_bytes HO2.out) HB3.out) (bytes_below HLOW.out HB3.out) HO2.out.1 HLJ.out
  have hc2 := compare_any (c := c2) (d := c3) (bytes_below (own_bytes HO2.out) HB3.out) (own_bytes HO3.out) HO2.out.1 HO3.out.1
  have v1 := cmp_vals ([80] ++ esc m ++ [0, 0]) ([80] ++ esc l)
  have v2 := cmp_vals ([80] ++ esc m ++ [0, 0]) (afterOf ([80] ++ esc l) q)
  have hkp := HKP.out
  rcases v1 with e1 | e1 | e1
  · rw [e1] at hc1 hkp
    have hdec : decide (l <+: m) = false := decide_eq_false (fun h => (hkp.2 h).1 rfl)
    have HC1 := Lib.hid hc1
    clear hc1 hc2 v2 e1 hkp HAF HKP HLOW HLJ
    refine HC1.out.mono ?_
    rintro e w' ⟨rfl, rfl⟩
    go_wp2_with (first | (go_at_call 11; refine (HBG.out _ HU3.out).mono ?_; rw [hdec]; rintro e w4 ⟨rfl, hb4⟩; have HB4 := Lib.hid (HU3.out.trans (hb4.mono HU3.out.size)); clear hb4))
    rw [← HQ.out]
    exact ⟨rfl, HB4.out⟩
  all_goals
    rw [e1] at hc1 hkp
    have HC1 := Lib.hid hc1
    rcases v2 with e2 | e2 | e2
    · rw [e2] at hc2 hkp
      have hdec : decide (l <+: m) = true := decide_eq_true (hkp.1 ⟨by omega, rfl⟩)
      have HC2 := Lib.hid hc2
      clear hc1 hc2 e1 e2 hkp HAF HKP HLOW HLJ
      refine HC1.out.mono ?_
      rintro e w' ⟨rfl, rfl⟩
      go_wp2_with (first | (go_at_call 9; refine HC2.out.mono ?_; rintro e w' ⟨rfl, rfl⟩) | (go_at_call 11; refine (HBG.out _ HU3.out).mono ?_; rw [hdec]; rintro e w4 ⟨rfl, hb4⟩; have HB4 := Lib.hid (HU3.out.trans (hb4.mono HU3.out.size)); clear hb4))
      rw [← HQ.out]
      exact ⟨rfl, HB4.out⟩
    all_goals
      rw [e2] at hc2 hkp
      have hdec : decide (l <+: m) = false := decide_eq_false (fun h => absurd (hkp.2 h).2 (by omega))
      have HC2 := Lib.hid hc2
      clear hc1 hc2 e1 e2 hkp HAF HKP HLOW HLJ
      refine HC1.out.mono ?_
      rintro e w' ⟨rfl, rfl⟩
      go_wp2_with (first | (go_at_call 9; refine HC2.out.mono ?_; rintro e w' ⟨rfl, rfl⟩) | (go_at_call 11; refine (HBG.out _ HU3.out).mono ?_; rw [hdec]; rintro e w4 ⟨rfl, hb4⟩; have HB4 := Lib.hid (HU3.out.trans (hb4.mono HU3.out.size)); clear hb4))
      rw [← HQ.out]
      exact ⟨rfl, HB4.out⟩
end Go.Proofs.YtpbdchcocadnkaaDoor
