/- KeyBytes: the walk. -/
import Derived.Test.YtpbdchcocadnkaaDoorKeyRefA
import Derived.Test.YtpbdchcocadnkaaDoorKeyAwake
namespace Go.Proofs.YtpbdchcocadnkaaDoor
open Go.ChangeShapes Go.WideShapes Go.ChangeAt Go.RowKit

/-- What After tells, whichever way. -/
def aftL (l : List Nat) (q : Nat) : List Nat := if q = 0 then [] else afterOf l q
theorem aft_form {w w' : World} {l : List Nat} {q : Nat} {e : Ending} (hq : q ≤ l.length) (h : AftOut w l q e w') : ∃ a c, e = .returned (.tuple #[.slice a q c, .bool (decide (q ≠ 0))]) ∧ BytesAt w' a (aftL l q) ∧ (aftL l q).length = q ∧ Below w.heap.size w w' := by
  obtain ⟨h1, h2⟩ := h
  by_cases h0 : q = 0
  · subst h0
    exact ⟨none, 0, h1, bytes_empty _, rfl, h2⟩
  · rw [if_neg h0] at h1
    obtain ⟨a, c, h3, h4⟩ := h1
    refine ⟨a, c, by rw [h3]; simp [h0], ?_, ?_, h2⟩
    · rw [aftL, if_neg h0]; exact own_bytes h4
    · rw [aftL, if_neg h0]; exact h4.1
set_option maxHeartbeats 2000000 in
set_option maxRecDepth 20000 in
theorem keybytes_law {w : World} {a b : Option Addr} {l m : List Nat} {n k c d : Nat} (ha : BytesAt w a l) (hb : BytesAt w b m) (hl : l.length = n) (hm : m.length = k) (hn : n ≤ 140737488351232) (hc : n ≤ c) :
    Calls Tryd.prog 3 #[.slice a n c, .slice b k d] w fun e w' => e = .returned (.bool true) ∧ Below w.heap.size w w' := by
  obtain ⟨q, hq⟩ := last_all ha.1
  obtain ⟨x, hx⟩ : ∃ x, x = aftL l q := ⟨_, rfl⟩
  obtain ⟨g, hg⟩ : ∃ g, g = decide (q ≠ 0) := ⟨_, rfl⟩
  obtain ⟨z, hz⟩ : ∃ z, z = cmpN l m := ⟨_, rfl⟩
  have HAF : Hid (∀ V, Below w.heap.size w V → Calls Tryd.prog 6 #[.slice a n c] V fun e w' => ∃ a c, e = .returned (.tuple #[.slice a q c, .bool g]) ∧ BytesAt w' a x ∧ x.length = q ∧ Below V.heap.size V w') := Lib.hid (fun V hV => (after_any (bytes_below ha hV) hl hn hc hq).mono fun e w' h => by rw [hx, hg]; exact aft_form hq.1 h)
  have HRA : Hid (∀ V, Below w.heap.size w V → Calls Tryd.prog 7 #[.slice a n c] V fun e w' => ∃ a c, e = .returned (.tuple #[.slice a q c, .bool g]) ∧ BytesAt w' a x ∧ x.length = q ∧ Below V.heap.size V w') := Lib.hid (fun V hV => (refafter_any (bytes_below ha hV) hl hn hc hq).mono fun e w' h => by rw [hx, hg]; exact aft_form hq.1 h)
  have HC : Hid (∀ V, Below w.heap.size w V → Calls Tryd.prog 9 #[.slice a n c, .slice b k d] V fun e w' => e = .returned (.int .i64 z) ∧ V = w') := Lib.hid (fun V hV => hz ▸ compare_any (bytes_below ha hV) (bytes_below hb hV) hl hm)
  have HRC : Hid (∀ V, Below w.heap.size w V → Calls Tryd.prog 10 #[.slice a n c, .slice b k d] V fun e w' => e = .returned (.int .i64 z) ∧ V = w') := Lib.hid (fun V hV => hz ▸ refcompare_any (bytes_below ha hV) (bytes_below hb hV) hl hm)
  have HLQ : Hid (q ≤ n) := Lib.hid (by rw [← hl]; exact hq.1)
  generalize hQ : (fun (e : Ending) (w' : World) => e = .returned (.bool true) ∧ Below w.heap.size w w') = Q
  have HQ := Lib.hid hQ
  clear hQ ha hb hl hm hz hq
  clear hx hg
  go_enter Tryd.func3, Tryd.ntmps3
  go_wp2_with fail
  refine (HAF.out _ (Below.refl _ _)).mono ?_
  rintro e w1 ⟨a1, c1, rfl, hx1, hl1, hb1⟩
  have HB1 := Lib.hid hb1
  have HX1 := Lib.hid hx1
  have HL1 := Lib.hid hl1
  clear hx1 hl1 hb1
  go_wp2_with fail
  refine (HRA.out _ HB1.out).mono ?_
  rintro e w2 ⟨a2, c2, rfl, hx2, hl2, hb2⟩
  have HX2 := Lib.hid hx2
  have HX1' := Lib.hid (bytes_below HX1.out hb2)
  have HB2 := Lib.hid (HB1.out.trans (hb2.mono HB1.out.size))
  clear hx2 hl2 hb2
  go_wp2_with fail
  refine (awake_any w2).mono ?_
  rintro e w3 ⟨rfl, hb3⟩
  have k1 := conv_any (bytes_below HX1'.out hb3) HL1.out c1
  have k2 := conv_any (bytes_below HX2.out hb3) HL1.out c2
  have HB3 := Lib.hid (HB2.out.trans (hb3.mono HB2.out.size))
  obtain ⟨s, hs⟩ : ∃ s, s = str x := ⟨_, rfl⟩
  rw [← hs] at k1 k2
  clear hs hb3
  go_wp2_with (first
    | (go_at_call 9; refine (HC.out _ HB3.out).mono ?_; rintro e w' ⟨rfl, rfl⟩)
    | (go_at_call 10; refine (HRC.out _ HB3.out).mono ?_; rintro e w' ⟨rfl, rfl⟩))
  rw [← HQ.out]
  exact ⟨rfl, HB3.out⟩
end Go.Proofs.YtpbdchcocadnkaaDoor
