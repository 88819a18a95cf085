/- Modes: their join; the document's own answers. -/
import Derived.Test.YthanjncpgcmnaaaLckFun
namespace Go.Proofs.Ythanjncpgcmnaaa
open Go.ChangeShapes Go.WideShapes Go.ChangeAt Go.RowKit

theorem joi_no {a b : Int} (h : isM a = false ∨ isM b = false) : joi a b = 0 := if_pos h
theorem isM_lo {a : Int} (h : a < 1) : isM a = false := by rw [isM_not]; omega
theorem isM_hi {a : Int} (h : 4 < a) : isM a = false := by rw [isM_not]; omega
set_option maxRecDepth 100000 in
set_option maxHeartbeats 4000000 in
theorem joi_any (a b : Int) (w : World) : Calls Try.prog 19 #[.int .i64 a, .int .i64 b] w fun e w' => e = .returned (.int .i64 (joi a b)) ∧ w = w' := by
  have HM := Lib.hid isMode_any
  by_cases h1 : isM a = true
  · by_cases h2 : isM b = true
    · have Ha := Lib.hid (isM_nat h1); have Hb := Lib.hid (isM_nat h2)
      clear h1 h2
      rcases Ha.out with e | e | e | e <;> rcases Hb.out with e' | e' | e' | e' <;> subst e e'
      all_goals
        have H1 : Hid (isM 1 = true) := Lib.hid (by decide)
        have H2 : Hid (isM 2 = true) := Lib.hid (by decide)
        have H3 : Hid (isM 3 = true) := Lib.hid (by decide)
        have H4 : Hid (isM 4 = true) := Lib.hid (by decide)
        clear Ha Hb
        go_enter Try.func19, Try.ntmps19
        go_wp2_with (go_at_call 27; refine (HM.out _ _).mono ?_; rintro e w' ⟨rfl, rfl⟩; first | rw [H1.out] | rw [H2.out] | rw [H3.out] | rw [H4.out])
        go_ret
        exact ⟨rfl, rfl⟩
    · have HN : Hid (joi a b = 0) := Lib.hid (joi_no (.inr (by simpa using h2)))
      have H1 := Lib.hid h1
      have H2 : Hid (isM b = false) := Lib.hid (by simpa using h2)
      clear h1 h2
      go_enter Try.func19, Try.ntmps19
      go_wp2_with (go_at_call 27; refine (HM.out _ _).mono ?_; rintro e w' ⟨rfl, rfl⟩; first | rw [H1.out] | rw [H2.out])
      go_ret
      exact ⟨ret_int HN.out.symm, rfl⟩
  · have HN : Hid (joi a b = 0) := Lib.hid (joi_no (.inl (by simpa using h1)))
    have H1 : Hid (isM a = false) := Lib.hid (by simpa using h1)
    clear h1
    go_enter Try.func19, Try.ntmps19
    go_wp2_with (go_at_call 27; refine (HM.out _ _).mono ?_; rintro e w' ⟨rfl, rfl⟩; rw [H1.out])
    go_ret
    exact ⟨ret_int HN.out.symm, rfl⟩
theorem four_cases (a b : Int) : (isM a = true ∧ isM b = true) ∨ (a < 1 ∧ isM a = false) ∨ (1 ≤ a ∧ 4 < a ∧ isM a = false) ∨ (1 ≤ a ∧ a ≤ 4 ∧ b < 1 ∧ isM b = false) ∨ (1 ≤ a ∧ a ≤ 4 ∧ 1 ≤ b ∧ 4 < b ∧ isM b = false) := by
  simp only [isM_iff, isM_not]; omega
set_option maxRecDepth 100000 in
set_option maxHeartbeats 4000000 in
theorem refjoi_any (a b : Int) (w : World) : Calls Try.prog 22 #[.int .i64 a, .int .i64 b] w fun e w' => e = .returned (.int .i64 (joi a b)) ∧ w = w' := by
  rcases four_cases a b with ⟨h1, h2⟩ | ⟨h1, h2⟩ | ⟨h1, h1', h2⟩ | ⟨h0, h0', h1, h2⟩ | ⟨h0, h0', h1, h1', h2⟩
  · have Ha := Lib.hid (isM_nat h1); have Hb := Lib.hid (isM_nat h2)
    clear h1 h2
    rcases Ha.out with e | e | e | e <;> rcases Hb.out with e' | e' | e' | e' <;> subst e e'
    all_goals
      clear Ha Hb
      go_enter Try.func22, Try.ntmps22
      go_wp2
      go_ret
      exact ⟨rfl, rfl⟩
  all_goals
    have HN : Hid (joi a b = 0) := Lib.hid (joi_no (by first | exact .inl h2 | exact .inr h2))
    clear h2
    go_enter Try.func22, Try.ntmps22
    go_wp2
    go_ret
    exact ⟨ret_int HN.out.symm, rfl⟩
set_option maxRecDepth 100000 in
set_option maxHeartbeats 4000000 in
theorem reftog_any (a b : Int) (w : World) : Calls Try.prog 21 #[.int .i64 a, .int .i64 b] w fun e w' => e = .returned (.bool (tog a b)) ∧ Below w.heap.size w w' := by
  rcases four_cases a b with ⟨h1, h2⟩ | ⟨h1, h2⟩ | ⟨h1, h1', h2⟩ | ⟨h0, h0', h1, h2⟩ | ⟨h0, h0', h1, h1', h2⟩
  · have Ha := Lib.hid (isM_nat h1); have Hb := Lib.hid (isM_nat h2)
    clear h1 h2
    rcases Ha.out with e | e | e | e <;> rcases Hb.out with e' | e' | e' | e' <;> subst e e'
    all_goals
      clear Ha Hb
      go_enter Try.func21, Try.ntmps21
      go_wp2
      go_ret

      exact ⟨rfl, below_alloc w _⟩
  all_goals
    have HN : Hid (tog a b = false) := Lib.hid (tog_no (by first | exact .inl h2 | exact .inr h2))
    clear h2
    go_enter Try.func21, Try.ntmps21
    go_wp2
    go_ret
    exact ⟨ret_bool HN.out.symm, Below.refl _ _⟩
end Go.Proofs.Ythanjncpgcmnaaa
