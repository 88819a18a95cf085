/- A lock is asked for: granted, or waited for. -/
import Derived.Test.YthanjncpgcmnaaaLckIns
namespace Go.Proofs.Ythanjncpgcmnaaa
open Go.ChangeShapes Go.WideShapes Go.ChangeAt Go.RowKit

/-- What is wanted of a name. -/
def wants (S : St) (o : Nat) (nm : ByteArray) (m : Nat) : Int := if S.hold nm o = 0 then (m : Int) else joi (S.hold nm o) m
section
variable {w : World} {g : Nat} {S : St} {x : Gh} {N : Nat} (H : Tab w g S x N)
include H
set_option maxRecDepth 100000 in
set_option maxHeartbeats 2000000 in
theorem ask_more (o : Nat) (nm : ByteArray) (m W : Nat) (hN : N + 20 < 8796093022208) (ho : o < top) (h0 : o ≠ 0) (hn : nm.size ≤ maxLen) (hm : isM (m : Int) = true) (hw : (S.waits o).2 = 0) (hh : S.hold nm o ≠ 0) (hj : joi (S.hold nm o) m = (W : Int)) (hW : 1 ≤ W ∧ W ≤ 4) (hne : W ≠ S.hold nm o) (hL : Lets (S.hold nm) o W) :
    Calls Try.prog 13 #[.pointer (some ⟨g, 0, none⟩), .int .u64 (o : Int), .string nm, .int .i64 (m : Int)] w (Does w g (granted S o nm W) x (N + 5) (.int .i64 0)) := by
  obtain ⟨c0, c1⟩ := tab_cells H
  have HM := Lib.hid isMode_any
  have qM := mapNil
  have HJ := Lib.hid joi_any
  have HW := waiting_any H ho
  rw [hw, decide_eq_false (by simp)] at HW
  have HW' := Lib.hid HW
  have d : ((o : Int) == 0) = false := by simp; omega
  have d2 : ((W : Int) == (S.hold nm o : Int)) = false := by simp; omega
  have HI := Lib.hid hm
  have HL := Lib.hid (lock_any H (by omega) hn)
  have HO := Lib.hid ho; have HH := Lib.hid hh; have HJJ := Lib.hid hj; have HWW := Lib.hid hW; have HLL := Lib.hid hL; have HNM := Lib.hid hn; have HN := Lib.hid hN
  generalize hR : Does w g (granted S o nm W) x (N + 5) (.int .i64 0) = R
  have HR := Lib.hid hR
  clear H c1 hm h0 HW hw ho hN hn hh hj hR hL hW hne
  go_enter Try.func13, Try.ntmps13
  go_wp2_with (first
    | (go_at_call 27; refine (HM.out _ _).mono ?_; rintro e w' ⟨rfl, rfl⟩; rw [HI.out])
    | (go_at_call 28; refine HW'.out.mono ?_; rintro e w' ⟨rfl, rfl⟩)
    | (go_at_call 19; refine (HJ.out _ _ _).mono ?_; rintro e w' ⟨rfl, rfl⟩; rw [HJJ.out])
    | (go_at_call 29; refine HL.out.mono ?_; rintro e w1 ⟨k, x1, rfl, h1, hk1, -, s1⟩; have H1 := Lib.hid h1; have S1 := Lib.hid s1; have h2 := h1.below (below_alloc w1 (.cells #[.pointer (some ⟨k.b, 0, none⟩)] 63)); obtain ⟨k0, k1⟩ := lk_cells (h2.locks.each nm k hk1); have hlo := look_hold_ok (h2.locks.each nm k hk1) HO.out; rw [decide_eq_true HH.out] at hlo; have HLe := Lib.hid (lets_any h2 hk1 HO.out (W : Int)); have H2 := Lib.hid h2; have HK := Lib.hid hk1; clear h1 s1 h2 hk1)
    | (go_at_call 30; refine HLe.out.mono ?_; rintro e w3 ⟨r, rfl, hr, hb3⟩; obtain rfl : r = true := hr.2 HLL.out; have HG := Lib.hid (grant_any (H2.out.below hb3) (by have := HN.out; omega) HNM.out HK.out HO.out HWW.out); have HB3 := Lib.hid hb3; clear hr hb3)
    | (go_at_call 31; refine HG.out.mono ?_; rintro e w4 ⟨x4, rfl, h4, s4⟩; have H4 := Lib.hid h4; have S4 := Lib.hid s4; clear h4 s4))
  rw [← HR.out]
  exact ⟨_, rfl, H4.out, ((S1.out.trans (Steps.below _ (below_alloc _ _))).trans (Steps.below _ HB3.out)).trans S4.out⟩
set_option maxRecDepth 100000 in
set_option maxHeartbeats 2000000 in
theorem ask_first (o : Nat) (nm : ByteArray) (m : Nat) (hN : N + 20 < 8796093022208) (ho : o < top) (h0 : o ≠ 0) (hn : nm.size ≤ maxLen) (hm : isM (m : Int) = true) (hw : (S.waits o).2 = 0) (hh : S.hold nm o = 0) (hq : S.queue nm = []) (hW : 1 ≤ m ∧ m ≤ 4) (hL : Lets (S.hold nm) o m) :
    Calls Try.prog 13 #[.pointer (some ⟨g, 0, none⟩), .int .u64 (o : Int), .string nm, .int .i64 (m : Int)] w (Does w g (granted S o nm m) x (N + 5) (.int .i64 0)) := by
  obtain ⟨c0, c1⟩ := tab_cells H
  have HM := Lib.hid isMode_any
  have qM := mapNil
  have HW := waiting_any H ho
  rw [hw, decide_eq_false (by simp)] at HW
  have HW' := Lib.hid HW
  have d : ((o : Int) == 0) = false := by simp; omega
  have HI := Lib.hid hm
  have HL := Lib.hid (lock_any H (by omega) hn)
  have HO := Lib.hid ho; have HH := Lib.hid hh; have HWW := Lib.hid hW; have HLL := Lib.hid hL; have HNM := Lib.hid hn; have HN := Lib.hid hN; have HQ := Lib.hid hq
  generalize hR : Does w g (granted S o nm m) x (N + 5) (.int .i64 0) = R
  have HR := Lib.hid hR
  clear H c1 hm h0 HW hw ho hN hn hh hR hL hW hq
  go_enter Try.func13, Try.ntmps13
  go_wp2_with (first
    | (go_at_call 27; refine (HM.out _ _).mono ?_; rintro e w' ⟨rfl, rfl⟩; rw [HI.out])
    | (go_at_call 28; refine HW'.out.mono ?_; rintro e w' ⟨rfl, rfl⟩)
    | (go_at_call 29; refine HL.out.mono ?_; rintro e w1 ⟨k, x1, rfl, h1, hk1, -, s1⟩; have H1 := Lib.hid h1; have S1 := Lib.hid s1; have h2 := h1.below (below_alloc w1 (.cells #[.pointer (some ⟨k.b, 0, none⟩)] 63)); obtain ⟨k0, k1⟩ := lk_cells (h2.locks.each nm k hk1); have hlo := look_hold_ok (h2.locks.each nm k hk1) HO.out; rw [HH.out, decide_eq_false (by simp)] at hlo; have hqv := slc_form (h2.locks.each nm k hk1).slc; rw [HQ.out] at hqv; obtain ⟨ao, cap, hv, -⟩ := hqv; rw [hv] at k1; simp only [List.length_nil] at k1; clear hv; have HLe := Lib.hid (lets_any h2 hk1 HO.out (m : Int)); have H2 := Lib.hid h2; have HK := Lib.hid hk1; clear h1 s1 h2 hk1)
    | (go_at_call 30; refine HLe.out.mono ?_; rintro e w3 ⟨r, rfl, hr, hb3⟩; obtain rfl : r = true := hr.2 HLL.out; have HG := Lib.hid (grant_any (H2.out.below hb3) (by have := HN.out; omega) HNM.out HK.out HO.out HWW.out); have HB3 := Lib.hid hb3; clear hr hb3)
    | (go_at_call 31; refine HG.out.mono ?_; rintro e w4 ⟨x4, rfl, h4, s4⟩; have H4 := Lib.hid h4; have S4 := Lib.hid s4; clear h4 s4))
  rw [← HR.out]
  exact ⟨_, rfl, H4.out, ((S1.out.trans (Steps.below _ (below_alloc _ _))).trans (Steps.below _ HB3.out)).trans S4.out⟩
end
end Go.Proofs.Ythanjncpgcmnaaa
