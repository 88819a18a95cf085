/- A lock is asked for: refused, there already, granted. -/
import Derived.Test.YthanjncpgcmnaaaLckGrant
namespace Go.Proofs.Ythanjncpgcmnaaa
open Go.ChangeShapes Go.WideShapes Go.ChangeAt Go.RowKit

theorem mapNil (w : World) (r : Option Nat) : (binOp .eql 57 (.map r) (.map none)).run Try.prog w = .ok (.bool r.isNone) w := run_eql_map_nil w _ _ _ r Try.underlying57
theorem ret_num {a b : Int} (h : a = b) : Ending.returned (.int .i64 a) = .returned (.int .i64 b) := by rw [h]
section
variable {w : World} {g : Nat} {S : St} {x : Gh} {N : Nat} (H : Tab w g S x N)
include H
set_option maxRecDepth 100000 in
theorem ask_arg (o : Nat) (nm : ByteArray) (m : Int) (h : o = 0 ∨ isM m = false) :
    Calls Try.prog 13 #[.pointer (some ⟨g, 0, none⟩), .int .u64 (o : Int), .string nm, .int .i64 m] w fun e w' => e = .returned (.int .i64 1) ∧ w = w' := by
  obtain ⟨c0, c1⟩ := tab_cells H
  have HM := Lib.hid isMode_any
  have qM := mapNil
  clear H c1
  by_cases h0 : o = 0
  · subst h0
    clear h
    go_enter Try.func13, Try.ntmps13
    go_wp2_with (go_at_call 27; refine (HM.out _ _).mono ?_; rintro e w' ⟨rfl, rfl⟩)
    go_ret
    exact ⟨rfl, rfl⟩
  · have d : ((o : Int) == 0) = false := by simp; omega
    have HI : Hid (isM m = false) := Lib.hid (h.resolve_left h0)
    clear h h0
    go_enter Try.func13, Try.ntmps13
    go_wp2_with (go_at_call 27; refine (HM.out _ _).mono ?_; rintro e w' ⟨rfl, rfl⟩; rw [HI.out])
    go_ret
    exact ⟨rfl, rfl⟩
set_option maxRecDepth 100000 in
theorem ask_busy (o : Nat) (nm : ByteArray) (m : Int) (ho : o < top) (h0 : o ≠ 0) (hm : isM m = true) (hw : (S.waits o).2 ≠ 0) :
    Calls Try.prog 13 #[.pointer (some ⟨g, 0, none⟩), .int .u64 (o : Int), .string nm, .int .i64 m] w fun e w' => e = .returned (.int .i64 18) ∧ w = w' := by
  obtain ⟨c0, c1⟩ := tab_cells H
  have HM := Lib.hid isMode_any
  have qM := mapNil
  have HW := waiting_any H ho
  rw [decide_eq_true hw] at HW
  have HW' := Lib.hid HW
  have d : ((o : Int) == 0) = false := by simp; omega
  have HI := Lib.hid hm
  clear H c1 hm h0 HW hw ho
  go_enter Try.func13, Try.ntmps13
  go_wp2_with (first | (go_at_call 27; refine (HM.out _ _).mono ?_; rintro e w' ⟨rfl, rfl⟩; rw [HI.out]) | (go_at_call 28; refine HW'.out.mono ?_; rintro e w' ⟨rfl, rfl⟩))
  go_ret
  exact ⟨rfl, rfl⟩
set_option maxRecDepth 100000 in
set_option maxHeartbeats 2000000 in
theorem ask_same (o : Nat) (nm : ByteArray) (m : Nat) (hN : N + 20 < 4611686018427387904) (ho : o < top) (h0 : o ≠ 0) (hn : nm.size ≤ maxLen) (hm : isM (m : Int) = true) (hw : (S.waits o).2 = 0) (hh : S.hold nm o ≠ 0) (hj : joi (S.hold nm o) m = (S.hold nm o : Int)) :
    Calls Try.prog 13 #[.pointer (some ⟨g, 0, none⟩), .int .u64 (o : Int), .string nm, .int .i64 (m : Int)] w (Does w g S x (N + 1) (.int .i64 0)) := by
  obtain ⟨c0, c1⟩ := tab_cells H
  have HM := Lib.hid isMode_any
  have qM := mapNil
  have HJ := Lib.hid joi_any
  have HW := waiting_any H ho
  rw [hw, decide_eq_false (by simp)] at HW
  have HW' := Lib.hid HW
  have d : ((o : Int) == 0) = false := by simp; omega
  have HI := Lib.hid hm
  have HL := Lib.hid (lock_any H (by omega) hn)
  have HO := Lib.hid ho; have HH := Lib.hid hh; have HJJ := Lib.hid hj
  generalize hR : Does w g S x (N + 1) (.int .i64 0) = R
  have HR := Lib.hid hR
  clear H c1 hm h0 HW hw ho hN hn hh hj hR
  go_enter Try.func13, Try.ntmps13
  go_wp2_with (first
    | (go_at_call 27; refine (HM.out _ _).mono ?_; rintro e w' ⟨rfl, rfl⟩; rw [HI.out])
    | (go_at_call 28; refine HW'.out.mono ?_; rintro e w' ⟨rfl, rfl⟩)
    | (go_at_call 19; refine (HJ.out _ _ _).mono ?_; rintro e w' ⟨rfl, rfl⟩; rw [HJJ.out])
    | (go_at_call 29; refine HL.out.mono ?_; rintro e w1 ⟨k, x1, rfl, h1, hk1, -, s1⟩; have H1 := Lib.hid h1; have S1 := Lib.hid s1; have h2 := h1.below (below_alloc w1 (.cells #[.pointer (some ⟨k.b, 0, none⟩)] 63)); obtain ⟨k0, k1⟩ := lk_cells (h2.locks.each nm k hk1); have hlo := look_hold_ok (h2.locks.each nm k hk1) HO.out; rw [decide_eq_true HH.out] at hlo; have H2 := Lib.hid h2; have HK := Lib.hid hk1; clear h1 s1 h2 hk1))
  rw [← HR.out]
  exact ⟨_, rfl, H2.out, S1.out.trans (Steps.below _ (below_alloc _ _))⟩
end
end Go.Proofs.Ythanjncpgcmnaaa
